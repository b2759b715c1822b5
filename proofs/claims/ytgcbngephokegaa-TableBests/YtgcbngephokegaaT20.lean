/- The document's Best; Same. -/
import Derived.Test.YtgcbngephokegaaT19
namespace Go.Proofs.Ytgcbngephokegaa
open Go.RowKit Go.Maps Go.MapKept Go.ChangeMaps Go.WideElems Go.Joins
set_option linter.unusedVariables false
set_option linter.unusedSimpArgs false

/-- Has a rule's prefix an address? -/
def hasQ (A : Nat) (r : Ru) : Bool := decide (A / sz r.n.toNat = r.a / sz r.n.toNat)
def bestA (m : List Ru) (A : Nat) : Ru × Bool := match m.find? (hasQ A) with
  | some r => (r, true)
  | none => (ru0, false)
/-- Rules that may be. -/
def MRight (m : List Ru) : Prop := ∀ r ∈ m, rightB r.a r.n = true ∧ r.Ok
theorem tab_right {Z : Nat → Prop} {p : Nat} {W : World} {R : List Ru} (h : Tab Z p W R) : MRight R := by obtain ⟨m, -, -, -, hr⟩ := tab_look h; exact hr
theorem find_at {m : List Ru} {f : Ru → Bool} {i : Nat} {y : Ru} (hy : m[i]? = some y) (hf : f y = true) (hn : ∀ j z, j < i → m[j]? = some z → f z = false) : m.find? f = some y := by
  induction m generalizing i with
  | nil => simp at hy
  | cons x m ih =>
    cases i with
    | zero =>
      have e : x = y := by simpa using hy
      rw [List.find?_cons, e, hf]
    | succ i =>
      have hx := hn 0 x (by omega) rfl
      rw [List.find?_cons, hx]
      exact ih (by simpa using hy) (fun j z hj hz => hn (j + 1) z (by omega) (by simpa using hz))
theorem find_out {m : List Ru} {f : Ru → Bool} (hn : ∀ j z, j < m.length → m[j]? = some z → f z = false) : m.find? f = none := by
  refine List.find?_eq_none.2 (fun x hx => ?_)
  obtain ⟨j, hj⟩ := List.getElem?_of_mem hx
  have hjl : j < m.length := by
    rcases Nat.lt_or_ge j m.length with c | c
    · exact c
    · rw [List.getElem?_eq_none c] at hj; cases hj
  rw [hn j x hjl hj]; simp
set_option maxRecDepth 100000 in
set_option maxHeartbeats 4000000 in
theorem rbest_any (W : World) (b0 : Nat) (l : Value) (m : List Ru) (A : Nat) (hA : A < 4294967296) (hr : MRight m) (hl : Rules W b0 l m) (hlen : m.length ≤ 100000) :
    Calls Try.prog 31 #[l, .int .u32 (A : Nat)] W fun e w' => e = .returned (.tuple #[rv (bestA m A).1, .bool (bestA m A).2]) ∧ Below W.heap.size W w' := by
  have HR := Lib.hid hr
  have HL := Lib.hid hl
  obtain ⟨ad0, cap0, el⟩ := Row.slice hl
  subst el
  clear hl hr
  go_enter Try.func31, Try.ntmps31
  go_upto_region 1 with fail
  refine at_code (S := fun w => Blk w W.heap.size ru0.cells ∧ Below W.heap.size W w) ⟨Blk.new W 57 ru0.cells, bel_al (Below.refl _ _) _⟩ (fun W1 h1 => ?_)
  have X1 := Lib.hid h1.1
  have B1 := Lib.hid h1.2
  clear h1
  go_wp2_with fail
  go_loopw [6] (fun iv wr => ∃ (i : Nat), iv = .int .i64 (i : Nat) ∧ i ≤ m.length ∧ Hid (∀ j y, j < i → m[j]? = some y → hasQ A y = false) ∧ Hid (Below W.heap.size W wr) ∧ Hid (Blk wr W.heap.size ru0.cells)) (fun iv _ => m.length - (intOf iv).toNat)
  case atStart => exact ⟨0, rfl, Nat.zero_le _, Lib.hid (fun j y h => by omega), B1, X1⟩
  case round =>
    obtain ⟨i, rfl, hi, HJ, Bw, Xw⟩ := hrel
    clear B1 X1
    by_cases hil : i < m.length
    · have hw1 : IntKind.i64.wrap ((i : Int) + 1) = ((i + 1 : Nat) : Int) := by rw [IntKind.wrap_i64]; omega
      obtain ⟨y, hy, -, hym⟩ := drop_at hil
      have HY := Lib.hid hy
      obtain ⟨hyr, hyo⟩ := HR.out y hym
      obtain ⟨k0, k1, -⟩ := of_decide_eq_true hyr
      obtain ⟨k, hk⟩ := Int.eq_ofNat_of_zero_le k0
      have H1 := Lib.hid (rhas_any y.a k A (by omega) hyo.1 hA)
      have hq : hasQ A y = decide (A / sz k = y.a / sz k) := by unfold hasQ; rw [hk]; rfl
      obtain ⟨b, hb⟩ : ∃ b, decide (A / sz k = y.a / sz k) = b := ⟨_, rfl⟩
      rw [hb] at H1 hq
      have HQ := Lib.hid hq
      have hcell : Hid (∀ w, Below W.heap.size W w → w.cell? ⟨(match ad0 with | some a => a.block | none => 0), i * 6, none⟩ = some (.int .i64 y.id) ∧ True) := Lib.hid (fun w hb => by
        obtain ⟨g2, cap2, q1, q2⟩ := rule_at (show Rules w b0 _ m from Row.on HL.out hb) (by omega)
        simp at q1
        obtain ⟨rfl, -⟩ := q1
        exact ⟨(q2 i y hy).1, trivial⟩)
      obtain ⟨g2, cap2, q1, q2⟩ := rule_at (show Rules wr b0 _ m from Row.on HL.out Bw.out) (by omega)
      simp at q1
      obtain ⟨rfl, rfl⟩ := q1
      obtain ⟨c_0, c_1, c_2, c_3, c_4, c_5⟩ := q2 i y hy
      rw [hk] at c_3
      clear q2 hy hym hyr hyo k0 k1 hb hq hcell
      go_wp2_with fail
      refine (H1.out wr).mono ?_
      rintro e W7 ⟨rfl, hb⟩
      have B7 := Lib.hid (bel_on' Bw.out hb)
      have X7 := Lib.hid (Xw.out.on hb)
      clear hb c_0 c_1 c_2 c_3 c_4 c_5 Bw Xw H1
      cases b with
      | true =>
        have hbest : bestA m A = (y, true) := by unfold bestA; rw [find_at HY.out HQ.out HJ.out]
        obtain ⟨g2, cap3, q1, q2⟩ := rule_at (show Rules W7 b0 _ m from Row.on HL.out B7.out) (by omega)
        simp at q1
        obtain ⟨rfl, -⟩ := q1
        obtain ⟨c_0, c_1, c_2, c_3, c_4, c_5⟩ := q2 i y HY.out
        obtain ⟨⟨x_0, x_1, x_2, x_3, x_4, x_5⟩, f_0, f_1, f_2, f_3, f_4, f_5⟩ := blk_ru X7.out
        have HBest := Lib.hid hbest
        clear q2 hbest hk
        go_wp2
        have n1 : W.heap.size ≤ W.heap.size := Nat.le_refl _
        refine bodyPost_ret (v := .tuple #[rv y, .bool true]) (by simp [results, Try.results31, go_sem, x_0, x_1, x_2, x_3, x_4, x_5]) rfl ⟨by rw [HBest.out], ?_⟩
        exact (((((B7.out.setCell n1 _).setCell n1 _).setCell n1 _).setCell n1 _).setCell n1 _).setCell n1 _
      | false =>
        have HJ2 : Hid (∀ j z, j < i + 1 → m[j]? = some z → hasQ A z = false) := Lib.hid (fun j z hj hz => by
          rcases Nat.lt_or_ge j i with q | q
          · exact HJ.out j z q hz
          · obtain rfl : j = i := by omega
            rw [HY.out] at hz; cases hz; exact HQ.out)
        clear hk
        go_wp2_with fail
        refine ⟨⟨i + 1, by first | rfl | rw [hw1], by omega, HJ2, B7, X7⟩, by simp [intOf] <;> omega⟩
    · obtain rfl : i = m.length := by omega
      have hbest : bestA m A = (ru0, false) := by unfold bestA; rw [find_out HJ.out]
      have HBest := Lib.hid hbest
      obtain ⟨⟨x_0, x_1, x_2, x_3, x_4, x_5⟩, f_0, f_1, f_2, f_3, f_4, f_5⟩ := blk_ru Xw.out
      have zr := zeroRule
      clear hbest HJ
      go_wp2
      have n1 : W.heap.size ≤ W.heap.size := Nat.le_refl _
      refine bodyPost_ret (v := .tuple #[rv ru0, .bool false]) (by simp [results, Try.results31, go_sem, x_0, x_1, x_2, x_3, x_4, x_5]) rfl ⟨by rw [HBest.out], ?_⟩
      exact (((((Bw.out.setCell n1 _).setCell n1 _).setCell n1 _).setCell n1 _).setCell n1 _).setCell n1 _
set_option maxRecDepth 100000 in
set_option maxHeartbeats 1000000 in
theorem rsame_any (W : World) (b1 b2 : Nat) (u v : Value) (m : List Ru) (hu : Rules W b1 u m) (hv : Rules W b2 v m) (hl : m.length ≤ 100000) :
    Calls Try.prog 32 #[u, v] W fun e w' => e = .returned (.bool true) ∧ Below W.heap.size W w' := by
  have HU := Lib.hid hu
  have HV := Lib.hid hv
  obtain ⟨ad1, cap1, e1⟩ := Row.slice hu
  obtain ⟨ad2, cap2, e2⟩ := Row.slice hv
  subst e1 e2
  clear hu hv
  go_enter Try.func32, Try.ntmps32
  go_wp2_with fail
  go_loopw [13] (fun iv wr => ∃ (i : Nat), iv = .int .i64 (i : Nat) ∧ i ≤ m.length ∧ Hid (Below W.heap.size W wr)) (fun iv _ => m.length - (intOf iv).toNat)
  case atStart => exact ⟨0, rfl, Nat.zero_le _, Lib.hid (Below.refl _ _)⟩
  case round =>
    obtain ⟨i, rfl, hi, Bw⟩ := hrel
    by_cases hik : i < m.length
    · have hw1 : IntKind.i64.wrap ((i : Int) + 1) = ((i + 1 : Nat) : Int) := by rw [IntKind.wrap_i64]; omega
      obtain ⟨x, hx, -, -⟩ := drop_at hik
      obtain ⟨g, cap, q1, hc⟩ := rule_at (show Rules wr b1 (.slice ad1 m.length cap1) m from Row.on HU.out Bw.out) (by omega)
      obtain ⟨g2, cap', q2, hc2⟩ := rule_at (show Rules wr b2 (.slice ad2 m.length cap2) m from Row.on HV.out Bw.out) (by omega)
      simp at q1 q2
      obtain ⟨rfl, rfl⟩ := q1
      obtain ⟨rfl, rfl⟩ := q2
      obtain ⟨c_0, c_1, c_2, c_3, c_4, c_5⟩ := hc i x hx
      obtain ⟨d_0, d_1, d_2, d_3, d_4, d_5⟩ := hc2 i x hx
      clear hc hc2 hx
      go_wp2_with fail
      go_region
      all_goals
        have B6 : Hid (Below W.heap.size W wr.drew) := Lib.hid (Below.drew Bw.out)
        clear c_0 c_1 c_2 c_3 c_4 c_5 d_0 d_1 d_2 d_3 d_4 d_5 Bw
        go_wp2_with fail
        refine ⟨⟨i + 1, by first | rfl | rw [hw1], by omega, B6⟩, by simp [intOf] <;> omega⟩
    · obtain rfl : i = m.length := by omega
      go_wp2
      go_ret
      exact ⟨rfl, Bw.out⟩
end Go.Proofs.Ytgcbngephokegaa
