/- The document's Best; Same. The document's Meeting of rules. -/
import Derived.Test.YtgcbngephokegaaT18
namespace Go.Proofs.Ytgcbngephokegaa
open Go.RowKit Go.Maps Go.MapKept Go.ChangeMaps Go.WideElems Go.Joins
set_option linter.unusedVariables false
set_option linter.unusedSimpArgs false

/-- Has a rule's prefix an address? -/
def hasQ (A : Nat) (r : Ru) : Bool := decide (A / sz r.n.toNat = r.a / sz r.n.toNat)
def bestA (m : List Ru) (A : Nat) : Ru × Bool := match m.find? (hasQ A) with
  | some r => (r, true)
  | none => (ru0, false)
/-- Rules that may be. -/
def MRight (m : List Ru) : Prop := ∀ r ∈ m, rightB r.a r.n = true ∧ r.Ok
theorem tab_right {Z : Nat → Prop} {p : Nat} {W : World} {R : List Ru} (h : Tab Z p W R) : MRight R := by obtain ⟨m, -, -, -, hr⟩ := tab_look h; exact hr
theorem find_at {m : List Ru} {f : Ru → Bool} {i : Nat} {y : Ru} (hy : m[i]? = some y) (hf : f y = true) (hn : ∀ j z, j < i → m[j]? = some z → f z = false) : m.find? f = some y := by
  induction m generalizing i with
  | nil => simp at hy
  | cons x m ih =>
    cases i with
    | zero =>
      have e : x = y := by simpa using hy
      rw [List.find?_cons, e, hf]
    | succ i =>
      have hx := hn 0 x (by omega) rfl
      rw [List.find?_cons, hx]
      exact ih (by simpa using hy) (fun j z hj hz => hn (j + 1) z (by omega) (by simpa using hz))
theorem find_out {m : List Ru} {f : Ru → Bool} (hn : ∀ j z, j < m.length → m[j]? = some z → f z = false) : m.find? f = none := by
  refine List.find?_eq_none.2 (fun x hx => ?_)
  obtain ⟨j, hj⟩ := List.getElem?_of_mem hx
  have hjl : j < m.length := by
    rcases Nat.lt_or_ge j m.length with c | c
    · exact c
    · rw [List.getElem?_eq_none c] at hj; cases hj
  rw [hn j x hjl hj]; simp
set_option maxRecDepth 100000 in
set_option maxHeartbeats 4000000 in
theorem rbest_any (W : World) (b0 : Nat) (l : Value) (m : List Ru) (A : Nat) (hA : A < 4294967296) (hr : MRight m) (hl : Rules W b0 l m) (hlen : m.length ≤ 100000) :
    Calls Try.prog 31 #[l, .int .u32 (A : Nat)] W fun e w' => e = .returned (.tuple #[rv (bestA m A).1, .bool (bestA m A).2]) ∧ Below W.heap.size W w' := by
  have HR := Lib.hid hr
  have HL := Lib.hid hl
  obtain ⟨ad0, cap0, el⟩ := Row.slice hl
  subst el
  clear hl hr
  go_enter Try.func31, Try.ntmps31
  go_upto_region 1 with fail
  refine at_code (S := fun w => Blk w W.heap.size ru0.cells ∧ Below W.heap.size W w) ⟨Blk.new W 57 ru0.cells, bel_al (Below.refl _ _) _⟩ (fun W1 h1 => ?_)
  have X1 := Lib.hid h1.1
  have B1 := Lib.hid h1.2
  clear h1
  go_wp2_with fail
  go_loopw [6] (fun iv wr => ∃ (i : Nat), iv = .int .i64 (i : Nat) ∧ i ≤ m.length ∧ Hid (∀ j y, j < i → m[j]? = some y → hasQ A y = false) ∧ Hid (Below W.heap.size W wr) ∧ Hid (Blk wr W.heap.size ru0.cells)) (fun iv _ => m.length - (intOf iv).toNat)
  case atStart => exact ⟨0, rfl, Nat.zero_le _, Lib.hid (fun j y h => by omega), B1, X1⟩
  case round =>
    obtain ⟨i, rfl, hi, HJ, Bw, Xw⟩ := hrel
    clear B1 X1
    by_cases hil : i < m.length
    · have hw1 : IntKind.i64.wrap ((i : Int) + 1) = ((i + 1 : Nat) : Int) := by rw [IntKind.wrap_i64]; omega
      obtain ⟨y, hy, -, hym⟩ := drop_at hil
      have HY := Lib.hid hy
      obtain ⟨hyr, hyo⟩ := HR.out y hym
      obtain ⟨k0, k1, -⟩ := of_decide_eq_true hyr
      obtain ⟨k, hk⟩ := Int.eq_ofNat_of_zero_le k0
      have H1 := Lib.hid (rhas_any y.a k A (by omega) hyo.1 hA)
      have hq : hasQ A y = decide (A / sz k = y.a / sz k) := by unfold hasQ; rw [hk]; rfl
      obtain ⟨b, hb⟩ : ∃ b, decide (A / sz k = y.a / sz k) = b := ⟨_, rfl⟩
      rw [hb] at H1 hq
      have HQ := Lib.hid hq
      have hcell : Hid (∀ w, Below W.heap.size W w → w.cell? ⟨(match ad0 with | some a => a.block | none => 0), i * 6, none⟩ = some (.int .i64 y.id) ∧ True) := Lib.hid (fun w hb => by
        obtain ⟨g2, cap2, q1, q2⟩ := rule_at (show Rules w b0 _ m from Row.on HL.out hb) (by omega)
        simp at q1
        obtain ⟨rfl, -⟩ := q1
        exact ⟨(q2 i y hy).1, trivial⟩)
      obtain ⟨g2, cap2, q1, q2⟩ := rule_at (show Rules wr b0 _ m from Row.on HL.out Bw.out) (by omega)
      simp at q1
      obtain ⟨rfl, rfl⟩ := q1
      obtain ⟨c_0, c_1, c_2, c_3, c_4, c_5⟩ := q2 i y hy
      rw [hk] at c_3
      clear q2 hy hym hyr hyo k0 k1 hb hq hcell
      go_wp2_with fail
      refine (H1.out wr).mono ?_
      rintro e W7 ⟨rfl, hb⟩
      have B7 := Lib.hid (bel_on' Bw.out hb)
      have X7 := Lib.hid (Xw.out.on hb)
      clear hb c_0 c_1 c_2 c_3 c_4 c_5 Bw Xw H1
      cases b with
      | true =>
        have hbest : bestA m A = (y, true) := by unfold bestA; rw [find_at HY.out HQ.out HJ.out]
        obtain ⟨g2, cap3, q1, q2⟩ := rule_at (show Rules W7 b0 _ m from Row.on HL.out B7.out) (by omega)
        simp at q1
        obtain ⟨rfl, -⟩ := q1
        obtain ⟨c_0, c_1, c_2, c_3, c_4, c_5⟩ := q2 i y HY.out
        obtain ⟨⟨x_0, x_1, x_2, x_3, x_4, x_5⟩, f_0, f_1, f_2, f_3, f_4, f_5⟩ := blk_ru X7.out
        have HBest := Lib.hid hbest
        clear q2 hbest hk
        go_wp2
        have n1 : W.heap.size ≤ W.heap.size := Nat.le_refl _
        refine bodyPost_ret (v := .tuple #[rv y, .bool true]) (by simp [results, Try.results31, go_sem, x_0, x_1, x_2, x_3, x_4, x_5]) rfl ⟨by rw [HBest.out], ?_⟩
        exact (((((B7.out.setCell n1 _).setCell n1 _).setCell n1 _).setCell n1 _).setCell n1 _).setCell n1 _
      | false =>
        have HJ2 : Hid (∀ j z, j < i + 1 → m[j]? = some z → hasQ A z = false) := Lib.hid (fun j z hj hz => by
          rcases Nat.lt_or_ge j i with q | q
          · exact HJ.out j z q hz
          · obtain rfl : j = i := by omega
            rw [HY.out] at hz; cases hz; exact HQ.out)
        clear hk
        go_wp2_with fail
        refine ⟨⟨i + 1, by first | rfl | rw [hw1], by omega, HJ2, B7, X7⟩, by simp [intOf] <;> omega⟩
    · obtain rfl : i = m.length := by omega
      have hbest : bestA m A = (ru0, false) := by unfold bestA; rw [find_out HJ.out]
      have HBest := Lib.hid hbest
      obtain ⟨⟨x_0, x_1, x_2, x_3, x_4, x_5⟩, f_0, f_1, f_2, f_3, f_4, f_5⟩ := blk_ru Xw.out
      have zr := zeroRule
      clear hbest HJ
      go_wp2
      have n1 : W.heap.size ≤ W.heap.size := Nat.le_refl _
      refine bodyPost_ret (v := .tuple #[rv ru0, .bool false]) (by simp [results, Try.results31, go_sem, x_0, x_1, x_2, x_3, x_4, x_5]) rfl ⟨by rw [HBest.out], ?_⟩
      exact (((((Bw.out.setCell n1 _).setCell n1 _).setCell n1 _).setCell n1 _).setCell n1 _).setCell n1 _
set_option maxRecDepth 100000 in
set_option maxHeartbeats 1000000 in
theorem rsame_any (W : World) (b1 b2 : Nat) (u v : Value) (m : List Ru) (hu : Rules W b1 u m) (hv : Rules W b2 v m) (hl : m.length ≤ 100000) :
    Calls Try.prog 32 #[u, v] W fun e w' => e = .returned (.bool true) ∧ Below W.heap.size W w' := by
  have HU := Lib.hid hu
  have HV := Lib.hid hv
  obtain ⟨ad1, cap1, e1⟩ := Row.slice hu
  obtain ⟨ad2, cap2, e2⟩ := Row.slice hv
  subst e1 e2
  clear hu hv
  go_enter Try.func32, Try.ntmps32
  go_wp2_with fail
  go_loopw [13] (fun iv wr => ∃ (i : Nat), iv = .int .i64 (i : Nat) ∧ i ≤ m.length ∧ Hid (Below W.heap.size W wr)) (fun iv _ => m.length - (intOf iv).toNat)
  case atStart => exact ⟨0, rfl, Nat.zero_le _, Lib.hid (Below.refl _ _)⟩
  case round =>
    obtain ⟨i, rfl, hi, Bw⟩ := hrel
    by_cases hik : i < m.length
    · have hw1 : IntKind.i64.wrap ((i : Int) + 1) = ((i + 1 : Nat) : Int) := by rw [IntKind.wrap_i64]; omega
      obtain ⟨x, hx, -, -⟩ := drop_at hik
      obtain ⟨g, cap, q1, hc⟩ := rule_at (show Rules wr b1 (.slice ad1 m.length cap1) m from Row.on HU.out Bw.out) (by omega)
      obtain ⟨g2, cap', q2, hc2⟩ := rule_at (show Rules wr b2 (.slice ad2 m.length cap2) m from Row.on HV.out Bw.out) (by omega)
      simp at q1 q2
      obtain ⟨rfl, rfl⟩ := q1
      obtain ⟨rfl, rfl⟩ := q2
      obtain ⟨c_0, c_1, c_2, c_3, c_4, c_5⟩ := hc i x hx
      obtain ⟨d_0, d_1, d_2, d_3, d_4, d_5⟩ := hc2 i x hx
      clear hc hc2 hx
      go_wp2_with fail
      go_region
      all_goals
        have B6 : Hid (Below W.heap.size W wr.drew) := Lib.hid (Below.drew Bw.out)
        clear c_0 c_1 c_2 c_3 c_4 c_5 d_0 d_1 d_2 d_3 d_4 d_5 Bw
        go_wp2_with fail
        refine ⟨⟨i + 1, by first | rfl | rw [hw1], by omega, B6⟩, by simp [intOf] <;> omega⟩
    · obtain rfl : i = m.length := by omega
      go_wp2
      go_ret
      exact ⟨rfl, Bw.out⟩
end Go.Proofs.Ytgcbngephokegaa
namespace Go.Proofs.Ytgcbngephokegaa
open Go.RowKit Go.Maps Go.MapKept Go.ChangeMaps Go.WideElems Go.Joins
set_option linter.unusedVariables false
set_option linter.unusedSimpArgs false

/-- The first bits, by numbers. -/
theorem pth_eq {A B j : Nat} (hA : A < 4294967296) (hB : B < 4294967296) (hj : j ≤ 32) : pth A j = pth B j ↔ A / sz j = B / sz j := by
  have eA := ad_pth A hA j hj
  have eB := ad_pth B hB j hj
  constructor
  · intro h
    rw [h, eB] at eA
    exact Nat.eq_of_mul_eq_mul_right (sz_pos j) eA.symm
  · intro h
    have hc : cutA A j = cutA B j := by unfold cutA; rw [h]
    have pA := pth_ad (pth A j) (by rw [pth_len]; exact hj)
    have pB := pth_ad (pth B j) (by rw [pth_len]; exact hj)
    rw [pth_len, eA] at pA
    rw [pth_len, eB] at pB
    rw [← pA, ← pB, hc]
theorem div_pre (q : Pth) (A k : Nat) (hq : q.length ≤ 32) (hk : k ≤ 32) (hA : A < 4294967296) : q <+: pth A k ↔ q.length ≤ k ∧ A / sz q.length = ad q / sz q.length := by
  have e := pth_eq hA (ad_lt q hq) hq
  rw [pth_ad q hq] at e
  constructor
  · intro h
    have hl := h.length_le
    rw [pth_len] at hl
    refine ⟨hl, e.1 ?_⟩
    rw [← pth_take A k q.length hl]
    exact (List.prefix_iff_eq_take.1 h).symm
  · rintro ⟨hl, h⟩
    rw [← e.2 h]
    exact pth_pre A hl
theorem met_num (A k : Nat) (s : Pth) (hA : A < 4294967296) (hk : k ≤ 32) (hr : A % sz k = 0) (hs : s.length ≤ 32) :
    metQ (pth A k) s = ((decide (s.length ≤ k) && decide (A / sz s.length = ad s / sz s.length)) || (decide (k ≤ s.length) && decide (ad s / sz k = A / sz k))) := by
  have e1 := div_pre s A k hs hk hA
  have e2 := div_pre (pth A k) (ad s) s.length (by rw [pth_len]; exact hk) hs (ad_lt s hs)
  rw [pth_ad s hs, pth_len, ad_right A k hA hk hr] at e2
  rw [Bool.eq_iff_iff]
  simp only [decide_eq_true_eq, Bool.or_eq_true, Bool.and_eq_true]
  rw [e1, e2]
theorem filter_oneR {α : Type} (p : α → Bool) (x : α) : [x].filter p = if p x = true then [x] else [] := by cases c : p x <;> simp [c]
def metM (r : List Ru) (A k : Nat) : List Ru := r.filter fun x => metQ (pth A k) (re x).1
theorem metM_snoc (r : List Ru) (A k : Nat) (i : Nat) (x : Ru) (h : r[i]? = some x) : metM (r.take (i + 1)) A k = metM (r.take i) A k ++ (if metQ (pth A k) (re x).1 = true then [x] else []) := by
  unfold metM
  rw [List.take_add_one, h, Option.toList_some, List.filter_append, filter_oneR]
theorem met_ru (A k : Nat) (x : Ru) (m : Nat) (hA : A < 4294967296) (hk : k ≤ 32) (hr : A % sz k = 0) (hx : rightB x.a x.n = true) (hm : x.n = (m : Nat)) (hxa : x.a < 4294967296) :
    metQ (pth A k) (re x).1 = ((decide (m ≤ k) && decide (A / sz m = x.a / sz m)) || (decide (k ≤ m) && decide (x.a / sz k = A / sz k))) := by
  obtain ⟨h0, h1, h2⟩ := of_decide_eq_true hx
  rw [hm, Int.toNat_natCast] at h2
  have hml : m ≤ 32 := by omega
  have e : (re x).1 = pth x.a m := by show pth x.a x.n.toNat = _; rw [hm, Int.toNat_natCast]
  rw [e, met_num A k (pth x.a m) hA hk hr (by rw [pth_len]; exact hml), pth_len, ad_right x.a m hxa hml h2]
/-- Two prefixes' boxes. -/
structure PB (B1 B2 A k a m : Nat) (w : World) : Prop where
  p : Blk w B1 [.int .u32 (A : Nat), .int .i64 (k : Nat)]
  q : Blk w B2 [.int .u32 (a : Nat), .int .i64 (m : Nat)]
theorem PB.on {B1 B2 A k a m : Nat} {w w' : World} (h : PB B1 B2 A k a m w) (hb : Below w.heap.size w w') : PB B1 B2 A k a m w' := ⟨h.p.on hb, h.q.on hb⟩
set_option maxRecDepth 100000 in
set_option maxHeartbeats 4000000 in
theorem rmeet_right (W : World) (b0 : Nat) (l : Value) (r : List Ru) (A k : Nat) (hA : A < 4294967296) (hk : k ≤ 32) (hr : rightB A (k : Nat) = true) (hl : Rules W b0 l r) (hlen : r.length ≤ 100000) (hle : MRight r) :
    Calls Try.prog 35 #[l, pv (A : Nat) (k : Nat)] W fun e w' => ∃ u, e = .returned u ∧ Rules w' W.heap.size u (metM r A k) ∧ Below W.heap.size W w' := by
  have hrm : A % sz k = 0 := (of_decide_eq_true hr).2.2
  have hC := Lib.hid (rright_any A (k : Nat) hA)
  rw [hr] at hC
  have HL := Lib.hid hl
  have HE := Lib.hid hle
  obtain ⟨ad0, cap0, el⟩ := Row.slice hl
  subst el
  clear hl hle hr
  go_enter Try.func35, Try.ntmps35
  go_upto_region 1 with fail
  refine at_code (S := fun w1 => Blk w1 W.heap.size [.int .u32 (A : Nat), .int .i64 (k : Nat)] ∧ Below W.heap.size W w1) ⟨Blk.new _ _ _, bel_al (Below.refl _ _) _⟩ (fun w2 hW => ?_)
  have X2 := Lib.hid hW.1
  have B2 := Lib.hid hW.2
  have HX2 := Lib.hid hW.1.lt
  clear hW
  go_wp2_with fail
  have R1 : Hid (Rules w2 w2.heap.size (.slice none 0 0) (metM (r.take 0) A k)) := Lib.hid (row_nil _ _ _ _)
  go_loopw [5, 6] (fun ov iv wr => ∃ (i : Nat), iv = .int .i64 (i : Nat) ∧ i ≤ r.length ∧ Hid (Rules wr w2.heap.size ov (metM (r.take i) A k)) ∧ Hid (Below w2.heap.size w2 wr)) (fun _ iv _ => r.length - (intOf iv).toNat)
  case atStart => exact ⟨0, rfl, Nat.zero_le _, R1, Lib.hid (Below.refl _ _)⟩
  case round =>
    obtain ⟨i, rfl, hi, Rw, Bw⟩ := hrel
    clear R1
    by_cases hik : i < r.length
    · have hw1 : IntKind.i64.wrap ((i : Int) + 1) = ((i + 1 : Nat) : Int) := by rw [IntKind.wrap_i64]; omega
      obtain ⟨x, hx, -, hxm⟩ := drop_at hik
      have hsn := metM_snoc r A k i x hx
      obtain ⟨hxr, hxo⟩ := HE.out x hxm
      obtain ⟨k0, k1, -⟩ := of_decide_eq_true hxr
      obtain ⟨m, hm⟩ := Int.eq_ofNat_of_zero_le k0
      have hxl : m ≤ 32 := by omega
      have hxa := hxo.1
      rw [met_ru A k x m hA hk hrm hxr hm hxa] at hsn
      have BB := Lib.hid (bel_on' B2.out Bw.out)
      have V1 := Lib.hid (show Rules wr b0 (.slice ad0 r.length cap0) r from Row.on HL.out BB.out)
      obtain ⟨g, cap, e1, hc⟩ := rule_at V1.out (by omega)
      simp at e1
      obtain ⟨rfl, rfl⟩ := e1
      obtain ⟨c_0, c_1, c_2, c_3, c_4, c_5⟩ := hc i x hx
      rw [hm] at c_3
      have XB := Lib.hid (X2.out.on Bw.out)
      have hdl : (metM (r.take i) A k).length ≤ 100000 := by
        have := List.length_filter_le (fun x => metQ (pth A k) (re x).1) (r.take i)
        rw [List.length_take] at this
        unfold metM; omega
      have H1 := Lib.hid (rhas_any x.a m A hxl hxa hA)
      have H2 := Lib.hid (rhas_any A k x.a hk hA hxa)
      obtain ⟨a, ha⟩ : ∃ a, x.a = a := ⟨_, rfl⟩
      rw [ha] at H1 hsn c_2 H2
      have HVx : Hid (∀ w, Below W.heap.size W w → w.cell? ⟨g, i * 6, none⟩ = some (.int .i64 x.id) ∧ w.cell? ⟨g, i * 6 + 1, none⟩ = some (.int .i64 x.dev) ∧ w.cell? ⟨g, i * 6 + 2, none⟩ = some (.int .u32 (x.a : Nat)) ∧ w.cell? ⟨g, i * 6 + 3, none⟩ = some (.int .i64 x.n) ∧ w.cell? ⟨g, i * 6 + 4, none⟩ = some (.int .i64 x.prio) ∧ w.cell? ⟨g, i * 6 + 5, none⟩ = some (.int .i64 x.out)) := Lib.hid (fun w hb => by
        obtain ⟨g2, cap2, q1, q2⟩ := rule_at (show Rules w b0 _ r from Row.on HL.out hb) (by omega)
        simp at q1
        obtain ⟨rfl, -⟩ := q1
        exact q2 i x hx)
      obtain ⟨h1, e1⟩ : ∃ b, decide (A / sz m = a / sz m) = b := ⟨_, rfl⟩
      obtain ⟨h2, e2⟩ : ∃ b, decide (a / sz k = A / sz k) = b := ⟨_, rfl⟩
      have hsame : m = k → h1 = h2 := fun e => by rw [← e1, ← e2, e]; exact decide_eq_decide.2 eq_comm
      rw [e1] at H1 hsn
      rw [e2] at H2 hsn
      have HAX := Lib.hid ha
      have HMX := Lib.hid hm
      clear hc V1 hx hxm hxl hxa hxr hxo k0 k1 ha hm e1 e2
      go_upto_region 6 with fail
      refine at_code (S := fun w => Below w2.heap.size w2 w ∧ Rules w w2.heap.size u5 (metM (r.take i) A k) ∧ PB W.heap.size wr.heap.size A k a m w) ⟨Below.trans Bw.out (bel_al (Below.refl _ _) _ |>.mono Bw.out.size), Row.on Rw.out (bel_al (Below.refl _ _) _), ⟨XB.out.on (bel_al (Below.refl _ _) _), Blk.new wr 25 [.int .u32 (a : Nat), .int .i64 (m : Nat)]⟩⟩ (fun W5 h5 => ?_)
      have B5 := Lib.hid h5.1
      have R5 := Lib.hid h5.2.1
      have P5 := Lib.hid h5.2.2
      clear h5 c_0 c_1 c_2 c_3 c_4 c_5 XB BB Rw Bw
      have x_0 := P5.out.p.1 0 _ rfl
      have x_1 := P5.out.p.1 1 _ rfl
      go_wp2_with fail
      refine (hC.out W5).mono ?_
      rintro e W6 ⟨rfl, hb⟩
      have B6 := Lib.hid (bel_on' B5.out hb)
      have R6 := Lib.hid (show Rules W6 w2.heap.size _ _ from Row.on R5.out hb)
      have P6 := Lib.hid (P5.out.on hb)
      clear hb x_0 x_1 B5 R5 P5
      have x_0 := P6.out.p.1 0 _ rfl
      have x_1 := P6.out.p.1 1 _ rfl
      have y_0 := P6.out.q.1 0 _ rfl
      have y_1 := P6.out.q.1 1 _ rfl
      rcases Nat.lt_or_ge k m with hmk | hmk
      · have d1 : decide ((m : Int) ≤ (k : Int)) = false := decide_eq_false (by omega)
        have d2 : decide ((k : Int) ≤ (m : Int)) = true := decide_eq_true (by omega)
        have n1 : decide (m ≤ k) = false := decide_eq_false (by omega)
        have n2 : decide (k ≤ m) = true := decide_eq_true (by omega)
        go_wp2_with fail
        refine (H2.out _).mono ?_
        rintro e W7 ⟨rfl, hb⟩
        have B7 := Lib.hid (bel_on' B6.out hb)
        have R7 := Lib.hid (show Rules W7 w2.heap.size _ _ from Row.on R6.out hb)
        have P7 := Lib.hid (P6.out.on hb)
        clear hb x_0 x_1 y_0 y_1 B6 R6 P6
        have x_0 := P7.out.p.1 0 _ rfl
        have x_1 := P7.out.p.1 1 _ rfl
        have y_0 := P7.out.q.1 0 _ rfl
        have y_1 := P7.out.q.1 1 _ rfl
        cases h2 with
        | true =>
          have hsn := Lib.hid (show metM (r.take (i + 1)) A k = metM (r.take i) A k ++ [x] by rw [hsn]; rw [n1, n2]; rfl)
          go_upto_region 7 with fail
          obtain ⟨d_0, d_1, d_2, d_3, d_4, d_5⟩ := HVx.out W7 (bel_on' B2.out B7.out)
          obtain ⟨nY, hnY⟩ : ∃ q, (metM (r.take i) A k).length = q := ⟨_, rfl⟩
          obtain ⟨cY, hcY⟩ : ∃ c, (metM (r.take i) A k).flatMap Ru.cells = c := ⟨_, rfl⟩
          have hown := R7.out.1
          rw [hnY, hcY] at hown
          rw [hnY] at hdl
          have HNY := Lib.hid hnY
          have HCY := Lib.hid hcY
          clear hnY hcY x_0 x_1 y_0 y_1
          obtain ⟨i0, hi0, hz0, hz1, hz2⟩ := hinfo_parts infoRule
          have hsz := B7.out.size
          go_wp2_with (at_builtin; refine wpList_append_own _ rfl _ _ 55 rfl w2.heap.size 57 i0 (.agg #[.int .i64 0, .int .i64 0, .int .u32 0, .int .i64 0, .int .i64 0, .int .i64 0]) 6 48 Try.underlying55 hi0 hz0 hz1 hz2 rfl (by decide) _ _ _ rfl (hown.alloc _) ⟨W7.heap.size, 0, none⟩ 1 1 [.int .i64 x.id, .int .i64 x.dev, .int .u32 (x.a : Nat), .int .i64 x.n, .int .i64 x.prio, .int .i64 x.out] rfl rfl ?c1 ?c2 ?c3 ?c4 ?c5 ?_)
          case c1 => exact fun j y hj => by rw [add_plain, Nat.zero_add]; exact (Blk.new W7 57 [.int .i64 x.id, .int .i64 x.dev, .int .u32 (x.a : Nat), .int .i64 x.n, .int .i64 x.prio, .int .i64 x.out]).1 j y hj
          case c2 => intro x hx; simp at hx; rcases hx with rfl | rfl | rfl | rfl | rfl | rfl <;> rfl
          case c3 => unfold maxLen; omega
          case c4 => omega
          case c5 => simp; omega
          · intro v' w5 hown' hgrow hnl
            have RX : Hid (Rules w5 w2.heap.size v' (metM (r.take (i + 1)) A k)) := Lib.hid (by
              unfold Rules
              rw [hsn.out, List.flatMap_append, List.length_append, HNY.out, HCY.out]
              exact ⟨by simpa [Ru.cells] using hown', ⟨fun e => absurd e hnl, fun e => (by simp at e)⟩⟩)
            have BX : Hid (Below w2.heap.size w2 w5) := Lib.hid ((B7.out.alloc hsz _).grown hgrow (by simp; omega) (fun g e => (World.ownsRow.lt hown g e).1))
            clear hown' hgrow hnl hown R7 B7 P7 hi0 hz0 hz1 hz2 d_0 d_1 d_2 d_3 d_4 d_5 hsz
            go_wp2_with fail
            refine ⟨⟨i + 1, by first | rfl | rw [hw1], by omega, RX, BX⟩, by simp [intOf] <;> omega⟩
        | false =>
          have hsn := Lib.hid (show metM (r.take (i + 1)) A k = metM (r.take i) A k ++ [] by rw [hsn]; rw [n1, n2]; rfl)
          have RX : Hid (Rules W7 w2.heap.size u5 (metM (r.take (i + 1)) A k)) := Lib.hid (by rw [hsn.out, List.append_nil]; exact R7.out)
          go_wp2_with fail
          refine ⟨⟨i + 1, by first | rfl | rw [hw1], by omega, RX, B7⟩, by simp [intOf] <;> omega⟩
      · have d1 : decide ((m : Int) ≤ (k : Int)) = true := decide_eq_true (by omega)
        have n1 : decide (m ≤ k) = true := decide_eq_true hmk
        go_wp2_with fail
        refine (H1.out _).mono ?_
        rintro e W7 ⟨rfl, hb⟩
        have B7 := Lib.hid (bel_on' B6.out hb)
        have R7 := Lib.hid (show Rules W7 w2.heap.size _ _ from Row.on R6.out hb)
        have P7 := Lib.hid (P6.out.on hb)
        clear hb x_0 x_1 y_0 y_1 B6 R6 P6
        have x_0 := P7.out.p.1 0 _ rfl
        have x_1 := P7.out.p.1 1 _ rfl
        have y_0 := P7.out.q.1 0 _ rfl
        have y_1 := P7.out.q.1 1 _ rfl
        cases h1 with
        | true =>
          have hsn := Lib.hid (show metM (r.take (i + 1)) A k = metM (r.take i) A k ++ [x] by rw [hsn]; rw [n1]; rfl)
          go_upto_region 7 with fail
          obtain ⟨d_0, d_1, d_2, d_3, d_4, d_5⟩ := HVx.out W7 (bel_on' B2.out B7.out)
          obtain ⟨nY, hnY⟩ : ∃ q, (metM (r.take i) A k).length = q := ⟨_, rfl⟩
          obtain ⟨cY, hcY⟩ : ∃ c, (metM (r.take i) A k).flatMap Ru.cells = c := ⟨_, rfl⟩
          have hown := R7.out.1
          rw [hnY, hcY] at hown
          rw [hnY] at hdl
          have HNY := Lib.hid hnY
          have HCY := Lib.hid hcY
          clear hnY hcY x_0 x_1 y_0 y_1
          obtain ⟨i0, hi0, hz0, hz1, hz2⟩ := hinfo_parts infoRule
          have hsz := B7.out.size
          go_wp2_with (at_builtin; refine wpList_append_own _ rfl _ _ 55 rfl w2.heap.size 57 i0 (.agg #[.int .i64 0, .int .i64 0, .int .u32 0, .int .i64 0, .int .i64 0, .int .i64 0]) 6 48 Try.underlying55 hi0 hz0 hz1 hz2 rfl (by decide) _ _ _ rfl (hown.alloc _) ⟨W7.heap.size, 0, none⟩ 1 1 [.int .i64 x.id, .int .i64 x.dev, .int .u32 (x.a : Nat), .int .i64 x.n, .int .i64 x.prio, .int .i64 x.out] rfl rfl ?c1 ?c2 ?c3 ?c4 ?c5 ?_)
          case c1 => exact fun j y hj => by rw [add_plain, Nat.zero_add]; exact (Blk.new W7 57 [.int .i64 x.id, .int .i64 x.dev, .int .u32 (x.a : Nat), .int .i64 x.n, .int .i64 x.prio, .int .i64 x.out]).1 j y hj
          case c2 => intro x hx; simp at hx; rcases hx with rfl | rfl | rfl | rfl | rfl | rfl <;> rfl
          case c3 => unfold maxLen; omega
          case c4 => omega
          case c5 => simp; omega
          · intro v' w5 hown' hgrow hnl
            have RX : Hid (Rules w5 w2.heap.size v' (metM (r.take (i + 1)) A k)) := Lib.hid (by
              unfold Rules
              rw [hsn.out, List.flatMap_append, List.length_append, HNY.out, HCY.out]
              exact ⟨by simpa [Ru.cells] using hown', ⟨fun e => absurd e hnl, fun e => (by simp at e)⟩⟩)
            have BX : Hid (Below w2.heap.size w2 w5) := Lib.hid ((B7.out.alloc hsz _).grown hgrow (by simp; omega) (fun g e => (World.ownsRow.lt hown g e).1))
            clear hown' hgrow hnl hown R7 B7 P7 hi0 hz0 hz1 hz2 d_0 d_1 d_2 d_3 d_4 d_5 hsz
            go_wp2_with fail
            refine ⟨⟨i + 1, by first | rfl | rw [hw1], by omega, RX, BX⟩, by simp [intOf] <;> omega⟩
        | false =>
          rcases Nat.lt_or_ge m k with hlt | hge
          · have d2 : decide ((k : Int) ≤ (m : Int)) = false := decide_eq_false (by omega)
            have n2 : decide (k ≤ m) = false := decide_eq_false (by omega)
            have hsn := Lib.hid (show metM (r.take (i + 1)) A k = metM (r.take i) A k ++ [] by rw [hsn]; rw [n1, n2]; rfl)
            have RX : Hid (Rules W7 w2.heap.size u5 (metM (r.take (i + 1)) A k)) := Lib.hid (by rw [hsn.out, List.append_nil]; exact R7.out)
            go_wp2_with fail
            refine ⟨⟨i + 1, by first | rfl | rw [hw1], by omega, RX, B7⟩, by simp [intOf] <;> omega⟩
          · have d2 : decide ((k : Int) ≤ (m : Int)) = true := decide_eq_true (by omega)
            have n2 : decide (k ≤ m) = true := decide_eq_true hge
            obtain rfl := hsame (by omega)
            have hsn := Lib.hid (show metM (r.take (i + 1)) A k = metM (r.take i) A k ++ [] by rw [hsn]; rw [n1, n2]; rfl)
            go_wp2_with fail
            refine (H2.out _).mono ?_
            rintro e W8 ⟨rfl, hb⟩
            have B8 := Lib.hid (bel_on' B7.out hb)
            have R8 := Lib.hid (show Rules W8 w2.heap.size _ _ from Row.on R7.out hb)
            have P8 := Lib.hid (P7.out.on hb)
            clear hb x_0 x_1 y_0 y_1 B7 R7 P7
            have RX : Hid (Rules W8 w2.heap.size u5 (metM (r.take (i + 1)) A k)) := Lib.hid (by rw [hsn.out, List.append_nil]; exact R8.out)
            go_wp2_with fail
            refine ⟨⟨i + 1, by first | rfl | rw [hw1], by omega, RX, B8⟩, by simp [intOf] <;> omega⟩
    · obtain rfl : i = r.length := by omega
      have et := List.take_of_length_le (Nat.le_refl r.length)
      have RF := Lib.hid (show Rules wr w2.heap.size _ (metM r A k) from (by have := Rw.out; rw [et] at this; exact this))
      have BF := Lib.hid (bel_on' B2.out Bw.out)
      clear Rw et Bw
      go_wp2
      go_ret
      exact ⟨_, rfl, Row.base RF.out (by have := HX2.out; omega), BF.out⟩
set_option maxRecDepth 100000 in
set_option maxHeartbeats 1000000 in
theorem rmeet_wrong (W : World) (b0 : Nat) (l : Value) (r : List Ru) (A : Nat) (n : Int) (hA : A < 4294967296) (hr : rightB A n = false) (hl : Rules W b0 l r) (hlen : r.length ≤ 100000) :
    Calls Try.prog 35 #[l, pv (A : Nat) n] W fun e w' => e = .returned (.slice none 0 0) ∧ Below W.heap.size W w' := by
  have hC := Lib.hid (rright_any A n hA)
  rw [hr] at hC
  have HL := Lib.hid hl
  obtain ⟨ad0, cap0, el⟩ := Row.slice hl
  subst el
  clear hl hr
  go_enter Try.func35, Try.ntmps35
  go_upto_region 1 with fail
  refine at_code (S := fun w1 => Blk w1 W.heap.size [.int .u32 (A : Nat), .int .i64 n] ∧ Below W.heap.size W w1) ⟨Blk.new _ _ _, bel_al (Below.refl _ _) _⟩ (fun w2 hW => ?_)
  have X2 := Lib.hid hW.1
  have B2 := Lib.hid hW.2
  clear hW
  go_wp2_with fail
  go_loopw [5, 6] (fun ov iv wr => ∃ (i : Nat), ov = .slice none 0 0 ∧ iv = .int .i64 (i : Nat) ∧ i ≤ r.length ∧ Hid (Below w2.heap.size w2 wr)) (fun _ iv _ => r.length - (intOf iv).toNat)
  case atStart => exact ⟨0, rfl, rfl, Nat.zero_le _, Lib.hid (Below.refl _ _)⟩
  case round =>
    obtain ⟨i, rfl, rfl, hi, Bw⟩ := hrel
    by_cases hik : i < r.length
    · have hw1 : IntKind.i64.wrap ((i : Int) + 1) = ((i + 1 : Nat) : Int) := by rw [IntKind.wrap_i64]; omega
      obtain ⟨x, hx, -, hxm⟩ := drop_at hik
      obtain ⟨g, cap, e1, hc⟩ := rule_at (show Rules wr b0 (.slice ad0 r.length cap0) r from Row.on HL.out (bel_on' B2.out Bw.out)) (by omega)
      simp at e1
      obtain ⟨rfl, rfl⟩ := e1
      obtain ⟨c_0, c_1, c_2, c_3, c_4, c_5⟩ := hc i x hx
      have XB := Lib.hid (X2.out.on Bw.out)
      clear hc hx hxm
      go_upto_region 6 with fail
      refine at_code (S := fun w => Below w2.heap.size w2 w) (Below.trans Bw.out (bel_al (Below.refl _ _) _ |>.mono Bw.out.size)) (fun W5 h5 => ?_)
      have B5 := Lib.hid h5
      have x_0 := (X2.out.on B5.out).1 0 _ rfl
      have x_1 := (X2.out.on B5.out).1 1 _ rfl
      clear h5 c_0 c_1 c_2 c_3 c_4 c_5 XB Bw
      go_wp2_with fail
      refine (hC.out W5).mono ?_
      rintro e W6 ⟨rfl, hb⟩
      have B6 := Lib.hid (bel_on' B5.out hb)
      clear hb x_0 x_1 B5
      go_wp2_with fail
      refine ⟨⟨i + 1, rfl, by first | rfl | rw [hw1], by omega, B6⟩, by simp [intOf] <;> omega⟩
    · obtain rfl : i = r.length := by omega
      have BF := Lib.hid (bel_on' B2.out Bw.out)
      clear Bw
      go_wp2
      go_ret
      exact ⟨rfl, BF.out⟩
theorem rrmeet_any (W : World) (b0 : Nat) (l : Value) (m : List Ru) (hr : MRight m) (A : Nat) (n : Int) (hA : A < 4294967296) (hl : Rules W b0 l m) (hlen : m.length ≤ 100000) :
    Calls Try.prog 35 #[l, pv (A : Nat) n] W fun e w' => ∃ u, e = .returned u ∧ Rules w' W.heap.size u (meetR m A n) ∧ Below W.heap.size W w' := by
  unfold meetR
  cases hq : rightB A n with
  | false =>
    refine (rmeet_wrong W b0 l m A n hA hq hl hlen).mono ?_
    rintro e w' ⟨rfl, hb⟩
    exact ⟨_, rfl, row_nil _ _ _ _, hb⟩
  | true =>
    obtain ⟨h0, h1, -⟩ := of_decide_eq_true hq
    obtain ⟨k, rfl⟩ := Int.eq_ofNat_of_zero_le h0
    exact rmeet_right W b0 l m A k hA (by omega) hq hl hlen hr
end Go.Proofs.Ytgcbngephokegaa
