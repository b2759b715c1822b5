/- TrieWidest: the walk. -/
import Derived.Test.YtpninjdmgjbggaaKW0
namespace Go.Proofs.Ytpninjdmgjbggaa
open Go.RowKit Go.Maps Go.MapKept Go.ChangeMaps Go.WideElems Go.Joins
set_option linter.unusedVariables false
set_option linter.unusedSimpArgs false

/-- A tree of the call's own. -/
structure TS (W : World) (p : Nat) (w : World) (E : List Ent) : Prop where
  t : Tri (fun k => k < W.heap.size) p [] w E
  h : Hold (fun k => k < W.heap.size) W w
theorem TS.on {W w w' : World} {p : Nat} {E : List Ent} (h : TS W p w E) (hb : Below w.heap.size w w') : TS W p w' E := ⟨h.t.on hb, h.h.trans (Hold.of hb)⟩
theorem TS.below {W w : World} {p : Nat} {E : List Ent} (h : TS W p w E) : Below W.heap.size W w := Hold.below h.h (Nat.le_refl _) (fun k hk => hk)
theorem ts_new (W : World) (t : TypeId) : TS W W.heap.size (W.alloc (.cells #[.pointer none, .pointer none, .map none, .int .i64 0, .int .i64 0] t)) [] :=
  ⟨tri_new _ _ _ (Blk.new _ _ _) (Nat.lt_irrefl _) (fun k hk => by rw [World.size_alloc]; exact Nat.lt_succ_of_lt hk), Hold.of (bel_al (Below.refl _ _) _)⟩
theorem ts_add {W w : World} {p : Nat} {E : List Ent} (h : TS W p w E) (x : OpR) (hx : x.Ok) (hE : E.length ≤ 100000) :
    Calls Try.prog 15 #[.pointer (some ⟨p, 0, none⟩), pv (x.a : Nat) x.n, .int .i64 x.v] w fun e w' => e = .returned (.int .i64 (addC E x.a x.n x.v)) ∧ TS W p w' (addF E x.a x.n x.v) :=
  (tAdd h.t x.a x.n x.v hx.1 hx.2 hE).mono (fun e w' q => ⟨q.1, q.2.1, h.h.trans q.2.2⟩)
theorem ts_le {W w : World} {p : Nat} {E : List Ent} (h : TS W p w E) : E.Nodup ∧ ∀ e ∈ E, e.1.length ≤ 32 := by
  obtain ⟨N, hp⟩ := h.t.plain
  exact ⟨hp.en, fun e he => (hp.le e he).1⟩
/-- What is handed in stays. -/
theorem ops_on {W w : World} {la : Option Addr} {L : List OpR} (hr : Rw W la (L.flatMap OpR.cells)) (hb : Below W.heap.size W w) : Rw w la (L.flatMap OpR.cells) := hr.on hb
theorem op_at {w : World} {la : Option Addr} {L : List OpR} (hr : Rw w la (L.flatMap OpR.cells)) {i : Nat} {x : OpR} (hx : L[i]? = some x) : ∃ b off, la = some ⟨b, off, none⟩ ∧
    w.cell? ⟨b, off + i * 4, none⟩ = some (.bool x.d) ∧ w.cell? ⟨b, off + i * 4 + 1, none⟩ = some (.int .u32 x.a) ∧ w.cell? ⟨b, off + i * 4 + 2, none⟩ = some (.int .i64 x.n) ∧ w.cell? ⟨b, off + i * 4 + 3, none⟩ = some (.int .i64 x.v) := by
  obtain ⟨b, off, rfl⟩ := hr.elemAd 3 (fun _ => rfl) hx
  exact ⟨b, off, rfl, hr.elem 4 (fun _ => rfl) hx 0 rfl, hr.elem 4 (fun _ => rfl) hx 1 rfl, hr.elem 4 (fun _ => rfl) hx 2 rfl, hr.elem 4 (fun _ => rfl) hx 3 rfl⟩
set_option maxRecDepth 100000 in
theorem widest_many (L : List OpR) (la : Option Addr) (lc a : Nat) (hn : 60 < L.length) (W : World) : Calls Try.prog 5 #[.slice la L.length lc, .int .u32 (a : Nat)] W fun e w' => e = .returned (.bool true) ∧ Below W.heap.size W w' := by
  have h := Lib.hid (awake_any W)
  go_enter Try.func5, Try.ntmps5
  go_wp2_with fail
  refine h.out.mono ?_
  rintro e w' ⟨rfl, hb⟩
  have B := Lib.hid hb
  clear hb h
  go_wp2
  go_ret
  exact ⟨rfl, B.out⟩
set_option maxRecDepth 100000 in
set_option maxHeartbeats 2000000 in
theorem widest_few (L : List OpR) (la : Option Addr) (lc a : Nat) (ha : a < 4294967296) (hok : ∀ x ∈ L, x.Ok) (hn : L.length ≤ 60) (W : World) (hr : Rw W la (L.flatMap OpR.cells)) :
    Calls Try.prog 5 #[.slice la L.length lc, .int .u32 (a : Nat)] W fun e w' => e = .returned (.bool true) ∧ Below W.heap.size W w' := by
  have R := Lib.hid hr
  have OK := Lib.hid hok
  obtain ⟨n, hN⟩ : ∃ n, L.length = n := ⟨_, rfl⟩
  rw [hN] at hn ⊢
  have HN := Lib.hid hN
  clear hr hok hN
  go_enter Try.func5, Try.ntmps5
  go_upto_region 4 with fail
  refine at_code (S := fun w => TS W W.heap.size w (addL [] (L.take 0))) (ts_new W _) (fun W1 h1 => ?_)
  have T1 := Lib.hid h1
  clear h1
  go_wp2_with fail
  go_loopw [21] (fun iv wr => ∃ (i : Nat), iv = .int .i64 (i : Nat) ∧ i ≤ n ∧ Hid (TS W W.heap.size wr (addL [] (L.take i)))) (fun iv _ => n - (intOf iv).toNat)
  case atStart => exact ⟨0, rfl, Nat.zero_le _, T1⟩
  case round =>
    obtain ⟨i, rfl, hi, T⟩ := hrel
    clear T1
    by_cases hin : i < n
    · have hw1 : IntKind.i64.wrap ((i : Int) + 1) = ((i + 1 : Nat) : Int) := by rw [IntKind.wrap_i64]; omega
      obtain ⟨x, hx⟩ : ∃ x, L[i]? = some x := ⟨_, List.getElem?_eq_getElem (by rw [HN.out]; exact hin)⟩
      obtain ⟨b, o, rfl, c0, c1, c2, c3⟩ := op_at (ops_on R.out T.out.below) hx
      have hE : (addL [] (L.take i)).length ≤ 100000 := by have := addL_len (L.take i) []; rw [List.length_take] at this; simp at this; omega
      have HX := Lib.hid hx
      go_upto_region 7 with fail
      refine at_code (S := fun w => Blk w wr.heap.size [.bool x.d, .int .u32 x.a, .int .i64 x.n, .int .i64 x.v] ∧ TS W W.heap.size w (addL [] (L.take i))) ⟨Blk.new _ _ _, T.out.on (bel_al (Below.refl _ _) _)⟩ (fun w2 h2 => ?_)
      have T2 := Lib.hid h2.2
      have x_1 := h2.1.1 1 _ rfl
      have x_2 := h2.1.1 2 _ rfl
      have x_3 := h2.1.1 3 _ rfl
      clear h2 c0 c1 c2 c3 T hx
      go_wp2_with fail
      refine (ts_add T2.out x (OK.out x (List.mem_of_getElem? HX.out)) hE).mono ?_
      rintro e w3 ⟨rfl, h3⟩
      rw [← addL_snoc [] L i x HX.out] at h3
      have T3 := Lib.hid h3
      clear h3 T2 x_1 x_2 x_3
      go_wp2_with fail
      refine ⟨⟨i + 1, by first | rfl | rw [hw1], by omega, T3⟩, by simp [intOf] <;> omega⟩
    · obtain rfl : i = n := by omega
      have eL : L.take i = L := List.take_of_length_le (by rw [HN.out]; exact Nat.le_refl _)
      rw [eL] at T
      have hE : (addL [] L).length ≤ 100000 := by have := addL_len L []; rw [HN.out] at this; simp at this; omega
      obtain ⟨E, hE0⟩ : ∃ E, addL [] L = E := ⟨_, rfl⟩
      rw [hE0] at T hE
      have hle := Lib.hid (ts_le T.out)
      clear eL hE0 HN R OK
      go_wp2_with fail
      refine (tOf T.out.t a ha hE).mono ?_
      rintro e w2 ⟨vl, rfl, hv, hb⟩
      have T2 := Lib.hid (T.out.on hb)
      have V2 := Lib.hid hv
      clear hb hv
      go_wp2_with fail
      have hM := tMeeting T2.out.t a 32 ha hE
      rw [metF_32 E a ha] at hM
      refine hM.mono ?_
      rintro e w3 ⟨vm, rfl, hm, hb⟩
      clear hM
      have T3 := Lib.hid (T2.out.on hb)
      have V3 := Lib.hid (V2.out.on hb)
      have M3 := Lib.hid hm
      obtain ⟨wv, hwv⟩ : ∃ x, wr.heap.size = x := ⟨_, rfl⟩
      obtain ⟨wu, hwu⟩ : ∃ x, w2.heap.size = x := ⟨_, rfl⟩
      rw [hwv] at V3
      rw [hwu] at M3
      clear hwv hwu
      clear hb hm T2 V2 T
      obtain ⟨r, hr⟩ : ∃ r, srt E (metQ (pth a 32)) = r := ⟨_, rfl⟩
      have HL := Lib.hid (show ∀ k x y, r[k]? = some x → r[k + 1]? = some y → x.1.length < y.1.length ∨ (x.1 = y.1 ∧ x.2 < y.2) from fun k x y hx hy => met_lt hle.out.1 hle.out.2 a (by rw [hr]; exact hx) (by rw [hr]; exact hy))
      have HA := Lib.hid (show ∀ x ∈ r, x.1 = pth a x.1.length ∧ x.1.length ≤ 32 from fun x hx => (met_at hle.out.1 hle.out.2 a (by rw [hr]; exact hx)).2)
      rw [hr] at V3 M3
      obtain ⟨m, hm⟩ : ∃ m, r.length = m := ⟨_, rfl⟩
      have hm' : m ≤ 100000 := by rw [← hm, ← hr]; exact Nat.le_trans (srt_len hle.out.1 _) hE
      obtain ⟨al, cl, rfl⟩ := Row.slice V3.out
      obtain ⟨am, cm, rfl⟩ := Row.slice M3.out
      rw [hm] at V3 M3 ⊢
      have HM := Lib.hid hm
      clear hm hr
      go_wp2_with fail
      go_loopw [43] (fun iv wr => ∃ (k : Nat), iv = .int .i64 (k : Nat) ∧ k ≤ m ∧ Hid (TS W W.heap.size wr E) ∧ Hid (Ents wr wv (.slice al m cl) r) ∧ Hid (Ents wr wu (.slice am m cm) r)) (fun iv _ => m - (intOf iv).toNat)
      case atStart => exact ⟨0, rfl, Nat.zero_le _, T3, V3, M3⟩
      case round =>
        obtain ⟨k, rfl, hk, T, V, M⟩ := hrel
        clear T3 V3 M3
        by_cases hkm : k < m
        · have hw1 : IntKind.i64.wrap ((k : Int) + 1) = ((k + 1 : Nat) : Int) := by rw [IntKind.wrap_i64]; omega
          have hml : 0 < r.length := by rw [HM.out]; omega
          obtain ⟨x, hx⟩ : ∃ x, r[k]? = some x := ⟨_, List.getElem?_eq_getElem (by rw [HM.out]; exact hkm)⟩
          obtain ⟨g, cap, e1, -, hg, hc⟩ := ents_at V.out hml
          simp at e1
          obtain ⟨rfl, -, rfl⟩ := e1
          obtain ⟨c0, c1, c2⟩ := hc k x hx
          have HX := Lib.hid hx
          have HC := Lib.hid hc
          clear hc hx
          go_upto_region 15 with fail
          refine at_code (S := fun w => Blk w wr.heap.size (ecell x) ∧ TS W W.heap.size w E ∧ Ents w wv (.slice (some ⟨g, 0, none⟩) m cl) r ∧ Ents w wu (.slice am m cm) r) ⟨Blk.new _ _ (ecell x), T.out.on (bel_al (Below.refl _ _) _), V.out.on (bel_al (Below.refl _ _) _), M.out.on (bel_al (Below.refl _ _) _)⟩ (fun w5 h5 => ?_)
          obtain ⟨nx, hnx⟩ : ∃ n, wr.heap.size = n := ⟨_, rfl⟩
          rw [hnx] at h5 ⊢
          have X5 := Lib.hid h5.1
          have T5 := Lib.hid h5.2.1
          have V5 := Lib.hid h5.2.2.1
          have M5 := Lib.hid h5.2.2.2
          have x_0 := h5.1.1 0 _ rfl
          have x_1 := h5.1.1 1 _ rfl
          have x_2 := h5.1.1 2 _ rfl
          clear h5 c0 c1 c2 T V M hnx HC hg
          obtain ⟨g', cap', e1', -, hg', hc'⟩ := ents_at V5.out hml
          simp at e1'
          obtain ⟨rfl, -⟩ := e1'
          have hxa := HA.out x (List.mem_of_getElem? HX.out)
          have hax : ad x.1 ≤ a := by
            rw [hxa.1, ad_pth a ha _ hxa.2]; exact cut_le a _
          have hxl : ad x.1 < 4294967296 := Nat.lt_of_le_of_lt hax ha
          have hl32 : x.1.length ≤ 32 := hxa.2
          clear hxa
          cases k with
          | zero =>
            clear hc'
            go_wp2_with fail
            go_quiet (fail)
            go_wp2_with fail
            go_loopw [12, 96] (fun fv jv wr => ∃ (f : Bool) (j : Nat), fv = .bool f ∧ jv = .int .i64 (j : Nat) ∧ j ≤ m ∧ Hid (0 < j → f = true) ∧ Hid (TS W W.heap.size wr E) ∧ Hid (Ents wr wv (.slice (some ⟨g, 0, none⟩) m cl) r) ∧ Hid (Ents wr wu (.slice am m cm) r) ∧ Hid (Blk wr nx (ecell x))) (fun _ jv _ => m - (intOf jv).toNat)
            case atStart => exact ⟨false, 0, rfl, rfl, Nat.zero_le _, Lib.hid (fun h => by omega), Lib.hid (T5.out.on (below_drewN (Below.refl _ _) _)), Lib.hid (V5.out.on (below_drewN (Below.refl _ _) _)), Lib.hid (M5.out.on (below_drewN (Below.refl _ _) _)), Lib.hid (X5.out.on (below_drewN (Below.refl _ _) _))⟩
            case round =>
              obtain ⟨f, j, rfl, rfl, hj, F, T6, V6, M6, X6⟩ := hrel
              clear T5 V5 M5 X5
              by_cases hjm : j < m
              · have hw2 : IntKind.i64.wrap ((j : Int) + 1) = ((j + 1 : Nat) : Int) := by rw [IntKind.wrap_i64]; omega
                obtain ⟨y, hy⟩ : ∃ y, r[j]? = some y := ⟨_, List.getElem?_eq_getElem (by rw [HM.out]; exact hjm)⟩
                obtain ⟨gm, cap, e1, -, hgm, hcm⟩ := ents_at M6.out hml
                simp at e1
                obtain ⟨rfl, -, rfl⟩ := e1
                obtain ⟨d0, d1, d2⟩ := hcm j y hy
                have HY := Lib.hid hy
                clear hcm hy
                go_upto_region 21 with fail
                refine at_code (S := fun w => Blk w wr.heap.size (ecell y) ∧ Blk w nx (ecell x) ∧ TS W W.heap.size w E ∧ Ents w wv (.slice (some ⟨g, 0, none⟩) m cl) r ∧ Ents w wu (.slice (some ⟨gm, 0, none⟩) m cm) r) ⟨Blk.new _ _ (ecell y), X6.out.on (bel_al (Below.refl _ _) _), T6.out.on (bel_al (Below.refl _ _) _), V6.out.on (bel_al (Below.refl _ _) _), M6.out.on (bel_al (Below.refl _ _) _)⟩ (fun w7 h7 => ?_)
                have X7 := Lib.hid h7.2.1
                have T7 := Lib.hid h7.2.2.1
                have V7 := Lib.hid h7.2.2.2.1
                have M7 := Lib.hid h7.2.2.2.2
                have y_0 := h7.1.1 0 _ rfl
                have y_1 := h7.1.1 1 _ rfl
                have y_2 := h7.1.1 2 _ rfl
                have x_0 := h7.2.1.1 0 _ rfl
                have x_1 := h7.2.1.1 1 _ rfl
                have x_2 := h7.2.1.1 2 _ rfl
                clear h7 d0 d1 d2 X6 T6 V6 M6
                cases f with
                | true =>
                  go_wp2_with fail
                  refine ⟨⟨true, j + 1, rfl, by first | rfl | rw [hw2], by omega, Lib.hid (fun _ => rfl), T7, V7, M7, X7⟩, by simp [intOf] <;> omega⟩
                | false =>
                  have hkj : j ≤ 0 := by
                    rcases Nat.lt_or_ge 0 j with q | q
                    · have := F.out q; cases this
                    · exact q
                  have NX : j = 0 ∨ (j < 0 ∧ ∃ e : Bool, Hid ((((ad y.1 : Nat) : Int) == ((ad x.1 : Nat) : Int) && (((y.1.length : Nat) : Int) == ((x.1.length : Nat) : Int) && (y.2 == x.2))) = e)) := by
                    rcases Nat.lt_or_ge j (0) with q | q
                    · exact Or.inr ⟨q, _, Lib.hid rfl⟩
                    · exact Or.inl (by omega)
                  rcases NX with q | ⟨q, -⟩
                  · have exy : x = y := by
                      have h1 := HX.out
                      have h2 := HY.out
                      rw [q] at h2
                      rw [h1] at h2
                      exact Option.some.inj h2
                    have q1 : ((ad y.1 : Nat) : Int) = ((ad x.1 : Nat) : Int) := by rw [exy]
                    have q2 : ((y.1.length : Nat) : Int) = ((x.1.length : Nat) : Int) := by rw [exy]
                    have q3 : y.2 = x.2 := by rw [exy]
                    have b1 : (((ad y.1 : Nat) : Int) == ((ad x.1 : Nat) : Int)) = true := by rw [q1]; simp
                    have b2 : (((y.1.length : Nat) : Int) == ((x.1.length : Nat) : Int)) = true := by rw [q2]; simp
                    have b3 : (y.2 == x.2) = true := by rw [q3]; simp
                    clear exy q1 q2 q3 q
                    go_wp2_with fail
                    refine ⟨⟨true, j + 1, rfl, by first | rfl | rw [hw2], by omega, Lib.hid (fun _ => rfl), T7, V7, M7, X7⟩, by simp [intOf] <;> omega⟩
                  · have hne : ∃ b1 b2 b3 : Bool, Hid ((((ad y.1 : Nat) : Int) == ((ad x.1 : Nat) : Int)) = b1 ∧ (((y.1.length : Nat) : Int) == ((x.1.length : Nat) : Int)) = b2 ∧ (y.2 == x.2) = b3) := ⟨_, _, _, Lib.hid ⟨rfl, rfl, rfl⟩⟩
                    obtain ⟨b1, b2, b3, hb⟩ := hne
                    obtain ⟨hb1, hb2, hb3⟩ := hb.out
                    cases b1 <;> cases b2 <;> cases b3
                    all_goals
                      go_wp2_with fail
                      refine ⟨⟨_, j + 1, rfl, by first | rfl | rw [hw2], by omega, Lib.hid (fun h => by omega), T7, V7, M7, X7⟩, by simp [intOf] <;> omega⟩
              · obtain rfl : j = m := by omega
                obtain rfl := F.out hkm
                go_wp2_with fail
                refine ⟨⟨0 + 1, by first | rfl | rw [hw1], by omega, T6, V6, M6⟩, by simp [intOf] <;> omega⟩
          | succ k0 =>
            obtain ⟨y, hy⟩ : ∃ y, r[k0]? = some y := ⟨_, List.getElem?_eq_getElem (by rw [HM.out]; omega)⟩
            obtain ⟨c0, c1, c2⟩ := hc' k0 y hy
            have hord := HL.out k0 y x hy HX.out
            have hwk : IntKind.i64.wrap ((k0 : Int) + 1 - 1) = ((k0 : Nat) : Int) := by rw [IntKind.wrap_i64]; omega
            have hwk2 : IntKind.i64.wrap (k0 : Int) = ((k0 : Nat) : Int) := by rw [IntKind.wrap_i64]; omega
            have hk0m : k0 < m := by omega
            clear hc' hy
            have ne2 : ∃ b : Bool, Hid ((((ad y.1 : Nat) : Int) == ((ad x.1 : Nat) : Int)) = b) := ⟨_, Lib.hid rfl⟩
            rcases hord with hlt | ⟨hq, hv⟩
            · have f1 : ¬ (x.1.length < y.1.length) := by omega
              have f2 : (((y.1.length : Nat) : Int) == ((x.1.length : Nat) : Int)) = false := by simp; omega
              obtain ⟨b2, hb2⟩ := ne2
              have f3 := hb2.out
              clear hlt
              cases b2
              all_goals
                go_wp2_with fail
                go_quiet (fail)
                go_wp2_with fail
                go_loopw [12, 96] (fun fv jv wr => ∃ (f : Bool) (j : Nat), fv = .bool f ∧ jv = .int .i64 (j : Nat) ∧ j ≤ m ∧ Hid ((k0 + 1) < j → f = true) ∧ Hid (TS W W.heap.size wr E) ∧ Hid (Ents wr wv (.slice (some ⟨g, 0, none⟩) m cl) r) ∧ Hid (Ents wr wu (.slice am m cm) r) ∧ Hid (Blk wr nx (ecell x))) (fun _ jv _ => m - (intOf jv).toNat)
                case atStart => exact ⟨false, 0, rfl, rfl, Nat.zero_le _, Lib.hid (fun h => by omega), Lib.hid (T5.out.on (below_drewN (Below.refl _ _) _)), Lib.hid (V5.out.on (below_drewN (Below.refl _ _) _)), Lib.hid (M5.out.on (below_drewN (Below.refl _ _) _)), Lib.hid (X5.out.on (below_drewN (Below.refl _ _) _))⟩
                case round =>
                  obtain ⟨f, j, rfl, rfl, hj, F, T6, V6, M6, X6⟩ := hrel
                  clear T5 V5 M5 X5
                  by_cases hjm : j < m
                  · have hw2 : IntKind.i64.wrap ((j : Int) + 1) = ((j + 1 : Nat) : Int) := by rw [IntKind.wrap_i64]; omega
                    obtain ⟨y, hy⟩ : ∃ y, r[j]? = some y := ⟨_, List.getElem?_eq_getElem (by rw [HM.out]; exact hjm)⟩
                    obtain ⟨gm, cap, e1, -, hgm, hcm⟩ := ents_at M6.out hml
                    simp at e1
                    obtain ⟨rfl, -, rfl⟩ := e1
                    obtain ⟨d0, d1, d2⟩ := hcm j y hy
                    have HY := Lib.hid hy
                    clear hcm hy
                    go_upto_region 21 with fail
                    refine at_code (S := fun w => Blk w wr.heap.size (ecell y) ∧ Blk w nx (ecell x) ∧ TS W W.heap.size w E ∧ Ents w wv (.slice (some ⟨g, 0, none⟩) m cl) r ∧ Ents w wu (.slice (some ⟨gm, 0, none⟩) m cm) r) ⟨Blk.new _ _ (ecell y), X6.out.on (bel_al (Below.refl _ _) _), T6.out.on (bel_al (Below.refl _ _) _), V6.out.on (bel_al (Below.refl _ _) _), M6.out.on (bel_al (Below.refl _ _) _)⟩ (fun w7 h7 => ?_)
                    have X7 := Lib.hid h7.2.1
                    have T7 := Lib.hid h7.2.2.1
                    have V7 := Lib.hid h7.2.2.2.1
                    have M7 := Lib.hid h7.2.2.2.2
                    have y_0 := h7.1.1 0 _ rfl
                    have y_1 := h7.1.1 1 _ rfl
                    have y_2 := h7.1.1 2 _ rfl
                    have x_0 := h7.2.1.1 0 _ rfl
                    have x_1 := h7.2.1.1 1 _ rfl
                    have x_2 := h7.2.1.1 2 _ rfl
                    clear h7 d0 d1 d2 X6 T6 V6 M6
                    cases f with
                    | true =>
                      go_wp2_with fail
                      refine ⟨⟨true, j + 1, rfl, by first | rfl | rw [hw2], by omega, Lib.hid (fun _ => rfl), T7, V7, M7, X7⟩, by simp [intOf] <;> omega⟩
                    | false =>
                      have hkj : j ≤ (k0 + 1) := by
                        rcases Nat.lt_or_ge (k0 + 1) j with q | q
                        · have := F.out q; cases this
                        · exact q
                      have NX : j = (k0 + 1) ∨ (j < (k0 + 1) ∧ ∃ e : Bool, Hid ((((ad y.1 : Nat) : Int) == ((ad x.1 : Nat) : Int) && (((y.1.length : Nat) : Int) == ((x.1.length : Nat) : Int) && (y.2 == x.2))) = e)) := by
                        rcases Nat.lt_or_ge j ((k0 + 1)) with q | q
                        · exact Or.inr ⟨q, _, Lib.hid rfl⟩
                        · exact Or.inl (by omega)
                      rcases NX with q | ⟨q, -⟩
                      · have exy : x = y := by
                          have h1 := HX.out
                          have h2 := HY.out
                          rw [q] at h2
                          rw [h1] at h2
                          exact Option.some.inj h2
                        have q1 : ((ad y.1 : Nat) : Int) = ((ad x.1 : Nat) : Int) := by rw [exy]
                        have q2 : ((y.1.length : Nat) : Int) = ((x.1.length : Nat) : Int) := by rw [exy]
                        have q3 : y.2 = x.2 := by rw [exy]
                        have b1 : (((ad y.1 : Nat) : Int) == ((ad x.1 : Nat) : Int)) = true := by rw [q1]; simp
                        have b2 : (((y.1.length : Nat) : Int) == ((x.1.length : Nat) : Int)) = true := by rw [q2]; simp
                        have b3 : (y.2 == x.2) = true := by rw [q3]; simp
                        clear exy q1 q2 q3 q
                        go_wp2_with fail
                        refine ⟨⟨true, j + 1, rfl, by first | rfl | rw [hw2], by omega, Lib.hid (fun _ => rfl), T7, V7, M7, X7⟩, by simp [intOf] <;> omega⟩
                      · have hne : ∃ b1 b2 b3 : Bool, Hid ((((ad y.1 : Nat) : Int) == ((ad x.1 : Nat) : Int)) = b1 ∧ (((y.1.length : Nat) : Int) == ((x.1.length : Nat) : Int)) = b2 ∧ (y.2 == x.2) = b3) := ⟨_, _, _, Lib.hid ⟨rfl, rfl, rfl⟩⟩
                        obtain ⟨b1, b2, b3, hb⟩ := hne
                        obtain ⟨hb1, hb2, hb3⟩ := hb.out
                        cases b1 <;> cases b2 <;> cases b3
                        all_goals
                          go_wp2_with fail
                          refine ⟨⟨_, j + 1, rfl, by first | rfl | rw [hw2], by omega, Lib.hid (fun h => by omega), T7, V7, M7, X7⟩, by simp [intOf] <;> omega⟩
                  · obtain rfl : j = m := by omega
                    obtain rfl := F.out hkm
                    go_wp2_with fail
                    refine ⟨⟨(k0 + 1) + 1, by first | rfl | rw [hw1], by omega, T6, V6, M6⟩, by simp [intOf] <;> omega⟩
            · have f1 : ¬ (x.1.length < y.1.length) := by rw [hq]; omega
              have f2 : (((y.1.length : Nat) : Int) == ((x.1.length : Nat) : Int)) = true := by rw [hq]; simp
              have f3 : (((ad y.1 : Nat) : Int) == ((ad x.1 : Nat) : Int)) = true := by rw [hq]; simp
              have f4 : ¬ x.2 ≤ y.2 := by omega
              have f5 : decide (x.2 ≤ y.2) = false := decide_eq_false f4
              have f6 : y.2 < x.2 := by omega
              clear f4
              clear hv hq ne2
              go_wp2_with fail
              go_quiet (fail)
              go_wp2_with fail
              go_loopw [12, 96] (fun fv jv wr => ∃ (f : Bool) (j : Nat), fv = .bool f ∧ jv = .int .i64 (j : Nat) ∧ j ≤ m ∧ Hid ((k0 + 1) < j → f = true) ∧ Hid (TS W W.heap.size wr E) ∧ Hid (Ents wr wv (.slice (some ⟨g, 0, none⟩) m cl) r) ∧ Hid (Ents wr wu (.slice am m cm) r) ∧ Hid (Blk wr nx (ecell x))) (fun _ jv _ => m - (intOf jv).toNat)
              case atStart => exact ⟨false, 0, rfl, rfl, Nat.zero_le _, Lib.hid (fun h => by omega), Lib.hid (T5.out.on (below_drewN (Below.refl _ _) _)), Lib.hid (V5.out.on (below_drewN (Below.refl _ _) _)), Lib.hid (M5.out.on (below_drewN (Below.refl _ _) _)), Lib.hid (X5.out.on (below_drewN (Below.refl _ _) _))⟩
              case round =>
                obtain ⟨f, j, rfl, rfl, hj, F, T6, V6, M6, X6⟩ := hrel
                clear T5 V5 M5 X5
                by_cases hjm : j < m
                · have hw2 : IntKind.i64.wrap ((j : Int) + 1) = ((j + 1 : Nat) : Int) := by rw [IntKind.wrap_i64]; omega
                  obtain ⟨y, hy⟩ : ∃ y, r[j]? = some y := ⟨_, List.getElem?_eq_getElem (by rw [HM.out]; exact hjm)⟩
                  obtain ⟨gm, cap, e1, -, hgm, hcm⟩ := ents_at M6.out hml
                  simp at e1
                  obtain ⟨rfl, -, rfl⟩ := e1
                  obtain ⟨d0, d1, d2⟩ := hcm j y hy
                  have HY := Lib.hid hy
                  clear hcm hy
                  go_upto_region 21 with fail
                  refine at_code (S := fun w => Blk w wr.heap.size (ecell y) ∧ Blk w nx (ecell x) ∧ TS W W.heap.size w E ∧ Ents w wv (.slice (some ⟨g, 0, none⟩) m cl) r ∧ Ents w wu (.slice (some ⟨gm, 0, none⟩) m cm) r) ⟨Blk.new _ _ (ecell y), X6.out.on (bel_al (Below.refl _ _) _), T6.out.on (bel_al (Below.refl _ _) _), V6.out.on (bel_al (Below.refl _ _) _), M6.out.on (bel_al (Below.refl _ _) _)⟩ (fun w7 h7 => ?_)
                  have X7 := Lib.hid h7.2.1
                  have T7 := Lib.hid h7.2.2.1
                  have V7 := Lib.hid h7.2.2.2.1
                  have M7 := Lib.hid h7.2.2.2.2
                  have y_0 := h7.1.1 0 _ rfl
                  have y_1 := h7.1.1 1 _ rfl
                  have y_2 := h7.1.1 2 _ rfl
                  have x_0 := h7.2.1.1 0 _ rfl
                  have x_1 := h7.2.1.1 1 _ rfl
                  have x_2 := h7.2.1.1 2 _ rfl
                  clear h7 d0 d1 d2 X6 T6 V6 M6
                  cases f with
                  | true =>
                    go_wp2_with fail
                    refine ⟨⟨true, j + 1, rfl, by first | rfl | rw [hw2], by omega, Lib.hid (fun _ => rfl), T7, V7, M7, X7⟩, by simp [intOf] <;> omega⟩
                  | false =>
                    have hkj : j ≤ (k0 + 1) := by
                      rcases Nat.lt_or_ge (k0 + 1) j with q | q
                      · have := F.out q; cases this
                      · exact q
                    have NX : j = (k0 + 1) ∨ (j < (k0 + 1) ∧ ∃ e : Bool, Hid ((((ad y.1 : Nat) : Int) == ((ad x.1 : Nat) : Int) && (((y.1.length : Nat) : Int) == ((x.1.length : Nat) : Int) && (y.2 == x.2))) = e)) := by
                      rcases Nat.lt_or_ge j ((k0 + 1)) with q | q
                      · exact Or.inr ⟨q, _, Lib.hid rfl⟩
                      · exact Or.inl (by omega)
                    rcases NX with q | ⟨q, -⟩
                    · have exy : x = y := by
                        have h1 := HX.out
                        have h2 := HY.out
                        rw [q] at h2
                        rw [h1] at h2
                        exact Option.some.inj h2
                      have q1 : ((ad y.1 : Nat) : Int) = ((ad x.1 : Nat) : Int) := by rw [exy]
                      have q2 : ((y.1.length : Nat) : Int) = ((x.1.length : Nat) : Int) := by rw [exy]
                      have q3 : y.2 = x.2 := by rw [exy]
                      have b1 : (((ad y.1 : Nat) : Int) == ((ad x.1 : Nat) : Int)) = true := by rw [q1]; simp
                      have b2 : (((y.1.length : Nat) : Int) == ((x.1.length : Nat) : Int)) = true := by rw [q2]; simp
                      have b3 : (y.2 == x.2) = true := by rw [q3]; simp
                      clear exy q1 q2 q3 q
                      go_wp2_with fail
                      refine ⟨⟨true, j + 1, rfl, by first | rfl | rw [hw2], by omega, Lib.hid (fun _ => rfl), T7, V7, M7, X7⟩, by simp [intOf] <;> omega⟩
                    · have hne : ∃ b1 b2 b3 : Bool, Hid ((((ad y.1 : Nat) : Int) == ((ad x.1 : Nat) : Int)) = b1 ∧ (((y.1.length : Nat) : Int) == ((x.1.length : Nat) : Int)) = b2 ∧ (y.2 == x.2) = b3) := ⟨_, _, _, Lib.hid ⟨rfl, rfl, rfl⟩⟩
                      obtain ⟨b1, b2, b3, hb⟩ := hne
                      obtain ⟨hb1, hb2, hb3⟩ := hb.out
                      cases b1 <;> cases b2 <;> cases b3
                      all_goals
                        go_wp2_with fail
                        refine ⟨⟨_, j + 1, rfl, by first | rfl | rw [hw2], by omega, Lib.hid (fun h => by omega), T7, V7, M7, X7⟩, by simp [intOf] <;> omega⟩
                · obtain rfl : j = m := by omega
                  obtain rfl := F.out hkm
                  go_wp2_with fail
                  refine ⟨⟨(k0 + 1) + 1, by first | rfl | rw [hw1], by omega, T6, V6, M6⟩, by simp [intOf] <;> omega⟩
        · obtain rfl : k = m := by omega
          have C1 := Lib.hid (awake_any wr)
          go_wp2_with fail
          refine C1.out.mono ?_
          rintro e w5 ⟨rfl, hb⟩
          have T5 := Lib.hid (T.out.on hb)
          clear hb T C1 V M
          go_wp2_with fail
          have hM := tMeeting T5.out.t 0 0 (by omega) hE
          rw [metF_all] at hM
          refine hM.mono ?_
          rintro e w6 ⟨v, rfl, hv, hb⟩
          have T6 := Lib.hid (T5.out.on hb)
          obtain ⟨ad6, cp6, rfl⟩ := Row.slice hv
          rw [srt_all_len hle.out.1]
          clear hb hv hM T5
          go_wp2_with fail
          refine (tLen T6.out.t).mono ?_
          rintro e w7 ⟨rfl, rfl⟩
          go_wp2
          go_ret
          exact ⟨rfl, T6.out.below⟩
theorem widest_any (L : List OpR) (la : Option Addr) (lc a : Nat) (ha : a < 4294967296) (W : World) (hr : Rw W la (L.flatMap OpR.cells)) (hok : ∀ x ∈ L, x.Ok) :
    Calls Try.prog 5 #[.slice la L.length lc, .int .u32 (a : Nat)] W fun e w' => e = .returned (.bool true) ∧ Below W.heap.size W w' := by
  rcases Nat.lt_or_ge 60 L.length with c | c
  · exact widest_many L la lc a c W
  · exact widest_few L la lc a ha hok c W hr
end Go.Proofs.Ytpninjdmgjbggaa
