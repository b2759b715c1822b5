/- Texts joined, in their order: P6, FC, FD, FF, V7, V1, V2, V3. -/
import Derived.Test.YtggcbklififcgabG7e26c7d02b
import Derived.Test.YtggcbklififcgabG64d036c05c
import Derived.Test.YtggcbklififcgabGa3cf92b948
/- Filters by their bits. No program in sight. -/
namespace Go.Proofs.Ytggcbklififcgab
set_option linter.unusedVariables false

/-- The bits that all headers that pass a filter have. -/
def fxL (a kd b ks : Nat) (p : Int) (qn l h u v : Nat) : List (Nat × Bool) :=
  (((fl a b qn l u 0 kd ++ fl a b qn l u 32 ks) ++ (if p = -1 then [] else fl a b qn l u 64 8)) ++ fl a b qn l u 72 (16 - rn l h)) ++ fl a b qn l u 88 (16 - rn u v)
theorem rise_append {l m : List (Nat × Bool)} {t : Nat} (h : Rise l) (k : Rise m) (h1 : ∀ p ∈ l, p.1 < t) (h2 : ∀ p ∈ m, t ≤ p.1) : Rise (l ++ m) :=
  ⟨List.pairwise_append.2 ⟨h.1, k.1, fun a ha b hb => by have := h1 a ha; have := h2 b hb; omega⟩, fun p hp => (List.mem_append.1 hp).elim (h.2 p) (k.2 p)⟩
theorem fxL_ok {a kd b ks : Nat} {p : Int} {qn l h u v : Nat} (hkd : kd ≤ 32) (hks : ks ≤ 32) (bl : l < 65536) (bh : h < 65536) (bu : u < 65536) (bv : v < 65536) : Rise (fxL a kd b ks p qn l h u v) ∧ (fxL a kd b ks p qn l h u v).length ≤ 104 := by
  have n1 := rn_le bl bh
  have n2 := rn_le bu bv
  have lt : ∀ {i n t : Nat}, i + n ≤ t → ∀ q ∈ fl a b qn l u i n, q.1 < t := fun hn q hq => by obtain ⟨j, hj, e⟩ := fl_mem hq; omega
  have ge : ∀ {i n t : Nat}, t ≤ i → ∀ q ∈ fl a b qn l u i n, t ≤ q.1 := fun hn q hq => by obtain ⟨j, hj, e⟩ := fl_mem hq; omega
  have A1 := rise_append (t := 32) (fl_rise a b qn l u 0 kd (by omega)) (fl_rise a b qn l u 32 ks (by omega)) (lt (by omega)) (ge (by omega))
  have A2 : Rise ((fl a b qn l u 0 kd ++ fl a b qn l u 32 ks) ++ (if p = -1 then [] else fl a b qn l u 64 8)) ∧ (∀ q ∈ (fl a b qn l u 0 kd ++ fl a b qn l u 32 ks) ++ (if p = -1 then [] else fl a b qn l u 64 8), q.1 < 72) ∧ ((fl a b qn l u 0 kd ++ fl a b qn l u 32 ks) ++ (if p = -1 then [] else fl a b qn l u 64 8)).length ≤ 72 := by
    have c1 : ∀ q ∈ fl a b qn l u 0 kd ++ fl a b qn l u 32 ks, q.1 < 64 := fun q hq => (List.mem_append.1 hq).elim (lt (by omega) q) (lt (by omega) q)
    split
    · rw [List.append_nil]
      exact ⟨A1, fun q hq => by have := c1 q hq; omega, by rw [List.length_append, fl_len, fl_len]; omega⟩
    · exact ⟨rise_append (t := 64) A1 (fl_rise a b qn l u 64 8 (by omega)) c1 (ge (by omega)), fun q hq => (List.mem_append.1 hq).elim (fun r => by have := c1 q r; omega) (lt (by omega) q), by rw [List.length_append, List.length_append, fl_len, fl_len, fl_len]; omega⟩
  have A3 := rise_append (t := 72) A2.1 (fl_rise a b qn l u 72 (16 - rn l h) (by omega)) A2.2.1 (ge (by omega))
  refine ⟨rise_append (t := 88) A3 (fl_rise a b qn l u 88 (16 - rn u v) (by omega)) (fun q hq => (List.mem_append.1 hq).elim (fun r => by have := A2.2.1 q r; omega) (lt (by omega) q)) (ge (by omega)), ?_⟩
  unfold fxL
  rw [List.length_append, List.length_append, fl_len, fl_len]
  have := A2.2.2
  omega
theorem allB_append (l m : List (Nat × Bool)) (e : Env) : allB (l ++ m) e = (allB l e && allB m e) := by unfold allB; rw [List.all_append]
/-- One field after another. -/
theorem gl_dst {A b q0 l u k d s q x y : Nat} (hA : HB A b q0 l u) (hk : k ≤ 32) (h : HB d s q x y) : allB (fl A b q0 l u 0 k) (hE d s q x y) = decide (d / sz k = A / sz k) := by
  rw [Bool.eq_iff_iff, allB_fl, decide_eq_true_eq]
  unfold sz
  rw [← bits_div (k := k) (n := 32 - k) (by rw [show k + (32 - k) = 32 by omega]; exact h.d) (by rw [show k + (32 - k) = 32 by omega]; exact hA.d)]
  refine forall_congr' fun i => forall_congr' fun hi => ?_
  rw [Nat.zero_add, show k + (32 - k) - 1 - i = 31 - i by omega]
  show bt d s q x y (i : Nat) = bt A b q0 l u (i : Nat) ↔ _
  rw [bt_dst h (by omega), bt_dst hA (by omega)]
theorem gl_src {A b q0 l u k d s q x y : Nat} (hA : HB A b q0 l u) (hk : k ≤ 32) (h : HB d s q x y) : allB (fl A b q0 l u 32 k) (hE d s q x y) = decide (s / sz k = b / sz k) := by
  rw [Bool.eq_iff_iff, allB_fl, decide_eq_true_eq]
  unfold sz
  rw [← bits_div (k := k) (n := 32 - k) (by rw [show k + (32 - k) = 32 by omega]; exact h.s) (by rw [show k + (32 - k) = 32 by omega]; exact hA.s)]
  refine forall_congr' fun i => forall_congr' fun hi => ?_
  rw [show k + (32 - k) - 1 - i = 31 - i by omega]
  show bt d s q x y ((32 + i : Nat) : Int) = bt A b q0 l u ((32 + i : Nat) : Int) ↔ _
  rw [bt_src h (by omega), bt_src hA (by omega)]
theorem gl_pro {A b q0 l u d s q x y : Nat} (hA : HB A b q0 l u) (h : HB d s q x y) : allB (fl A b q0 l u 64 8) (hE d s q x y) = decide (q = q0) := by
  rw [Bool.eq_iff_iff, allB_fl, decide_eq_true_eq]
  have k := bits_div (k := 8) (n := 0) (x := q) (y := q0) h.p hA.p
  rw [Nat.pow_zero, Nat.div_one, Nat.div_one] at k
  rw [← k]
  refine forall_congr' fun i => forall_congr' fun hi => ?_
  rw [show 8 + 0 - 1 - i = 7 - i by omega]
  show bt d s q x y ((64 + i : Nat) : Int) = bt A b q0 l u ((64 + i : Nat) : Int) ↔ _
  rw [bt_pro h (by omega), bt_pro hA (by omega)]
theorem gl_sp {A b q0 l u n d s q x y : Nat} (hA : HB A b q0 l u) (hn : n ≤ 16) (h : HB d s q x y) : allB (fl A b q0 l u 72 (16 - n)) (hE d s q x y) = decide (x / 2 ^ n = l / 2 ^ n) := by
  rw [Bool.eq_iff_iff, allB_fl, decide_eq_true_eq]
  rw [← bits_div (k := 16 - n) (n := n) (by rw [show 16 - n + n = 16 by omega]; exact h.x) (by rw [show 16 - n + n = 16 by omega]; exact hA.x)]
  refine forall_congr' fun i => forall_congr' fun hi => ?_
  rw [show 16 - n + n - 1 - i = 15 - i by omega]
  show bt d s q x y ((72 + i : Nat) : Int) = bt A b q0 l u ((72 + i : Nat) : Int) ↔ _
  rw [bt_sp h (by omega), bt_sp hA (by omega)]
theorem gl_dp {A b q0 l u n d s q x y : Nat} (hA : HB A b q0 l u) (hn : n ≤ 16) (h : HB d s q x y) : allB (fl A b q0 l u 88 (16 - n)) (hE d s q x y) = decide (y / 2 ^ n = u / 2 ^ n) := by
  rw [Bool.eq_iff_iff, allB_fl, decide_eq_true_eq]
  rw [← bits_div (k := 16 - n) (n := n) (by rw [show 16 - n + n = 16 by omega]; exact h.y) (by rw [show 16 - n + n = 16 by omega]; exact hA.y)]
  refine forall_congr' fun i => forall_congr' fun hi => ?_
  rw [show 16 - n + n - 1 - i = 15 - i by omega]
  show bt d s q x y ((88 + i : Nat) : Int) = bt A b q0 l u ((88 + i : Nat) : Int) ↔ _
  rw [bt_dp h (by omega), bt_dp hA (by omega)]
/-- What passes a filter, by its bits. -/
def ftP (a kd b ks : Nat) (p : Int) (qn l h u v : Nat) (e : Env) : Bool := (rsP 88 u v (rn u v) e && rsP 72 l h (rn l h) e) && allB (fxL a kd b ks p qn l h u v) e
theorem ftP_val {a kd b ks : Nat} {p : Int} {qn l h u v d s q x y : Nat} (hA : HB a b qn l u) (hp : p = -1 ∨ p = (qn : Int)) (hkd : kd ≤ 32) (hks : ks ≤ 32) (r1 : rightB a (kd : Nat) = true) (r2 : rightB b (ks : Nat) = true) (bh : h < 65536) (bv : v < 65536) (hh : HB d s q x y) :
    ftP a kd b ks p qn l h u v (hE d s q x y) = passB a (kd : Nat) b (ks : Nat) p l h u v d s q x y := by
  have n1 := rn_le hA.x bh
  have n2 := rn_le hA.y bv
  have v1 := pval_val (hE d s q x y) 72 x (fun i hi => bt_sp hh hi) (rn l h) n1
  have v2 := pval_val (hE d s q x y) 88 y (fun i hi => bt_dp hh hi) (rn u v) n2
  unfold ftP fxL passB inR
  rw [allB_append, allB_append, allB_append, allB_append, gl_dst hA hkd hh, gl_src hA hks hh, gl_sp hA n1 hh, gl_dp hA n2 hh, hasB_iff _ _ _ r1, hasB_iff _ _ _ r2, Int.toNat_natCast, Int.toNat_natCast]
  have e1 := rs_port hA.x bh hh.x n1 (rn_div hA.x bh)
  have e2 := rs_port hA.y bv hh.y n2 (rn_div hA.y bv)
  have e3 : allB (if p = -1 then [] else fl a b qn l u 64 8) (hE d s q x y) = prB p (q : Int) := by
    unfold prB
    by_cases c : p = -1
    · rw [if_pos c, decide_eq_true c]; rfl
    · rw [if_neg c, gl_pro hA hh, decide_eq_false c, Bool.false_or, decide_eq_decide]
      rcases hp with h | h
      · exact absurd h c
      · rw [h]; omega
  rw [e3]
  unfold rsP bdP
  rw [v1, v2, Bool.eq_iff_iff]
  simp only [if_true, Bool.false_eq_true, if_false, Bool.and_eq_true, decide_eq_true_eq]
  rw [← e1, ← e2]
  constructor
  · rintro ⟨⟨⟨y1, y2⟩, x1, x2⟩, ⟨⟨⟨d1, s1⟩, q1⟩, x3⟩, y3⟩
    exact ⟨⟨⟨⟨d1, s1⟩, q1⟩, x1, x2, x3⟩, y1, y2, y3⟩
  · rintro ⟨⟨⟨⟨d1, s1⟩, q1⟩, x1, x2, x3⟩, y1, y2, y3⟩
    exact ⟨⟨⟨y1, y2⟩, x1, x2⟩, ⟨⟨⟨d1, s1⟩, q1⟩, x3⟩, y3⟩
end Go.Proofs.Ytggcbklififcgab
/- What a filter's three makers have together. -/
namespace Go.Proofs.Ytggcbklififcgab
open Go.RowKit
set_option linter.unusedVariables false

def DA (B : Nat → Bool) : Prop := ∀ i, i < 104 → B i = true
def ftQ (l h u v : Nat) (e : Env) : Bool := rsP 88 u v (rn u v) e && rsP 72 l h (rn l h) e
/-- What there is behind so many makers. -/
def ftA (ns : List Nd) (a kd b ks : Nat) (p : Int) (qn l h u v : Nat) : Nat → List Nd → Nat → Prop
  | 0 => fun ns' f => ns' = ns ∧ f = 1
  | 1 => fun ns' f => Gd ns ns' f (rsP 88 u v (rn u v)) 320 288 104 DA
  | 2 => fun ns' f => Gd ns ns' f (ftQ l h u v) 928 864 104 DA
  | _ => fun ns' f => Gd ns ns' f (ftP a kd b ks p qn l h u v) 90888 90824 104 DA
theorem ft_step0 {most a kd b ks : Nat} {p : Int} {qn l h u v : Nat} {ns ns' : List Nd} {f : Nat} {R : Option Nat × List Nd} (hA : ftA ns a kd b ks p qn l h u v 0 ns' f) (hL : Lv most ns' R (rsP 88 u v (rn u v)) 320 288 (88 + 16) (fun B => ∀ i, i < 16 → B (88 + i) = true)) :
    Ext ns' R.2 ∧ (R.1 = none → most ≤ ns.length + 90888) ∧ ∀ g, R.1 = some g → g < R.2.length ∧ f < R.2.length ∧ ((jF 0 most R.2 f g).1 = none → most ≤ ns.length + 90888) ∧ ∀ q, (jF 0 most R.2 f g).1 = some q → ftA ns a kd b ks p qn l h u v 1 (jF 0 most R.2 f g).2 q := by
  obtain ⟨rfl, rfl⟩ := hA
  refine ⟨hL.ext, fun h => ?_, fun g hg => ?_⟩
  · obtain ⟨x, -⟩ := hL.none h; omega
  · have G := hL.some g hg
    rw [jF_one]
    refine ⟨G.st.1, by have := G.wf.len; omega, fun h => (by cases h), fun q hq => ?_⟩
    cases hq
    exact G.mono (Nat.le_refl _) (Nat.le_refl _) (by omega) (fun B hB i hi => hB _ (by omega))
theorem ft_step1 {most a kd b ks : Nat} {p : Int} {qn l h u v : Nat} {ns ns' : List Nd} {f : Nat} {R : Option Nat × List Nd} (bu : u < 65536) (bv : v < 65536) (hA : ftA ns a kd b ks p qn l h u v 1 ns' f) (hL : Lv most ns' R (rsP 72 l h (rn l h)) 320 288 (72 + 16) (fun B => ∀ i, i < 16 → B (72 + i) = true)) :
    Ext ns' R.2 ∧ (R.1 = none → most ≤ ns.length + 90888) ∧ ∀ g, R.1 = some g → g < R.2.length ∧ f < R.2.length ∧ ((jF 0 most R.2 f g).1 = none → most ≤ ns.length + 90888) ∧ ∀ q, (jF 0 most R.2 f g).1 = some q → ftA ns a kd b ks p qn l h u v 2 (jF 0 most R.2 f g).2 q := by
  have hA' : Gd ns ns' f (rsP 88 u v (rn u v)) 320 288 104 DA := hA
  have h1 := hA'.len
  have hn := rn_le bu bv
  refine ⟨hL.ext, fun h => ?_, fun g hg => ?_⟩
  · obtain ⟨x, -⟩ := hL.none h; omega
  · have G := hL.some g hg
    have h2 := G.len
    have hf := hA'.st.ext G.ext hA'.wf G.wf
    obtain ⟨L, l1, l2, l3⟩ := hA'.clo
    have hlv : 72 + 16 ≤ lv R.2 f := lv_ge G.wf hf.1 (by omega) (fun e i b hi' => by rw [hf.2, hf.2]; exact rsP_hld 88 u v _ e i b hn (by omega))
    obtain ⟨X, Y⟩ := and_below (most := most) (hi := 104) (hf' := 72 + 16) G.wf hf G.st ⟨L, l1, l2.ext G.ext, l3⟩ G.clo hlv (by omega)
    refine ⟨G.st.1, hf.1, fun h => ?_, fun q hq => ?_⟩
    · obtain ⟨x, -⟩ := X.none h; omega
    · have G' : Gd ns' R.2 g (rsP 72 l h (rn l h)) 320 288 104 DA := G.mono (Nat.le_refl _) (Nat.le_refl _) (by omega) (fun B hB i hi => hB _ (by omega))
      have K := (hA'.step G').step ((X.some q hq).mono (Nat.le_refl _) (Nat.le_refl _) (Nat.le_refl _) (fun _ _ => trivial))
      exact (K.mono (by omega) (by omega) (Nat.le_refl _) (fun _ h => h)).cast (fun e => rfl)
theorem ft_step2 {most a kd b ks : Nat} {p : Int} {qn l h u v : Nat} {ns ns' : List Nd} {f : Nat} {R : Option Nat × List Nd} (hR : Rise (fxL a kd b ks p qn l h u v)) (hl104 : (fxL a kd b ks p qn l h u v).length ≤ 104) (hA : ftA ns a kd b ks p qn l h u v 2 ns' f) (hC : R = cF most ns' (fxL a kd b ks p qn l h u v)) :
    Ext ns' R.2 ∧ (R.1 = none → most ≤ ns.length + 90888) ∧ ∀ g, R.1 = some g → g < R.2.length ∧ f < R.2.length ∧ ((jF 0 most R.2 f g).1 = none → most ≤ ns.length + 90888) ∧ ∀ q, (jF 0 most R.2 f g).1 = some q → ftA ns a kd b ks p qn l h u v 3 (jF 0 most R.2 f g).2 q := by
  have hA' : Gd ns ns' f (ftQ l h u v) 928 864 104 DA := hA
  obtain ⟨hL, -⟩ := cF_lv most 104 hA'.wf hR.1 hR.2 hR.2
  rw [← hC] at hL
  have h1 := hA'.len
  refine ⟨hL.ext, fun h => ?_, fun g hg => ?_⟩
  · obtain ⟨x, -⟩ := hL.none h; omega
  · have G : Gd ns' R.2 g (allB (fxL a kd b ks p qn l h u v)) 104 104 104 DA := (hL.some g hg).mono hl104 hl104 (Nat.le_refl _) (fun B hB p hp => hB _ (hR.2 p hp))
    have h2 := G.len
    have hf := hA'.st.ext G.ext hA'.wf G.wf
    obtain ⟨L, l1, l2, l3⟩ := hA'.clo
    obtain ⟨X, Y⟩ := and_lv (most := most) (hi := 104) G.wf hf G.st ⟨L, l1, l2.ext G.ext, l3⟩ G.clo
    refine ⟨G.st.1, hf.1, fun h => ?_, fun q hq => ?_⟩
    · obtain ⟨x, -⟩ := X.none h; omega
    · have K := (hA'.step G).step ((X.some q hq).mono (Nat.le_refl _) (Nat.le_refl _) (Nat.le_refl _) (fun _ _ => trivial))
      exact (K.mono (by omega) (by omega) (Nat.le_refl _) (fun _ h => h)).cast (fun e => rfl)
def FtRet (Z : Nat → Prop) (p0 most : Nat) (ns : List Nd) (a kd b ks : Nat) (p : Int) (qn l h u v : Nat) (W : World) (e : Ending) (w' : World) : Prop :=
  ∃ R, Got2 Z p0 most R W e w' ∧ Lv most ns R (ftP a kd b ks p qn l h u v) 90888 90824 104 DA ∧ (R.1 = none → R.2 = ns)
theorem filter_meet {Z : Nat → Prop} {p0 most : Nat} {W U V : World} {ns : List Nd} {a kd b ks : Nat} {p : Int} {qn l h u v s1 nb1 s2 nb2 c bb : Nat} {x : Value} (S0 : Sta Z p0 W most ns) (hU : Below W.heap.size W U) (hUV : Below U.heap.size U V) (hL : LitAt U W.heap.size x (fxL a kd b ks p qn l h u v))
    (hv1 : RsV V s1 nb1 p0 88 u v (rn u v)) (a1 : W.heap.size ≤ s1) (a2 : s1 + 3 ≤ nb1) (a3 : nb1 < V.heap.size) (hv2 : RsV V s2 nb2 p0 72 l h (rn l h)) (b1 : W.heap.size ≤ s2) (b2 : s2 + 3 ≤ nb2) (b3 : nb2 < V.heap.size)
    (c0 : V.cell? ⟨c, 0, none⟩ = some (.pointer (some ⟨p0, 0, none⟩))) (c1 : V.cell? ⟨c + 1, 0, none⟩ = some x) (h2 : W.heap.size ≤ c) (h2' : c + 2 ≤ V.heap.size)
    (hk : Blk V bb [.func (.func 58) #[] (rsCap s1 nb1), .func (.func 58) #[] (rsCap s2 nb2), .func (.func 60) #[] #[.pointer (some ⟨c, 0, none⟩), .pointer (some ⟨c + 1, 0, none⟩)]]) (hb : W.heap.size ≤ bb) (hb' : bb < V.heap.size)
    (hkd : kd ≤ 32) (hks : ks ≤ 32) (bl : l < 65536) (bh : h < 65536) (bu : u < 65536) (bv : v < 65536) :
    Calls Try.prog 36 #[.pointer (some ⟨p0, 0, none⟩), .slice (some ⟨bb, 0, none⟩) 3 3] V (FtRet Z p0 most ns a kd b ks p qn l h u v W) := by
  have hB := bel_on' hU hUV
  have n1 := rn_le bl bh
  have n2 := rn_le bu bv
  obtain ⟨hR, hl104⟩ := fxL_ok (a := a) (b := b) (p := p) (qn := qn) hkd hks bl bh bu bv
  have SV : Sta (fun k => Z k ∨ (W.heap.size ≤ k ∧ k < V.heap.size)) p0 V most ns := S0.grow hB (fun k hk => hk)
  have LV := hL.on hUV
  have M := meet_core SV 3 (by omega) (fun i => if i = 0 then (58, rsCap s1 nb1) else if i = 1 then (58, rsCap s2 nb2) else (60, #[.pointer (some ⟨c, 0, none⟩), .pointer (some ⟨c + 1, 0, none⟩)])) bb 3 (Or.inr ⟨hb, hb'⟩)
    (fun i hi => by
      have : i = 0 ∨ i = 1 ∨ i = 2 := by omega
      rcases this with rfl | rfl | rfl
      · exact hk.1 0 _ rfl
      · exact hk.1 1 _ rfl
      · exact hk.1 2 _ rfl)
    (ftA ns a kd b ks p qn l h u v) (most ≤ ns.length + 90888) ⟨rfl, rfl⟩
    (fun k ns' f h => by
      match k, h with
      | 0, h => rw [h.1]; exact Ext.refl _
      | 1, h => exact Gd.ext h
      | 2, h => exact Gd.ext h
      | k + 3, h => exact Gd.ext h)
    (fun k hk' ns' f W' hA hS hH => by
      have : k = 0 ∨ k = 1 ∨ k = 2 := by omega
      rcases this with rfl | rfl | rfl
      · refine (restL_any hS 88 u v (rn u v) s1 nb1 (by omega) bu bv n2 ⟨fun k hk => Or.inr ⟨by omega, by omega⟩, Or.inr ⟨by omega, by omega⟩⟩ (hv1.hold hH ⟨fun k hk => Or.inr ⟨by omega, by omega⟩, Or.inr ⟨by omega, by omega⟩⟩)).mono ?_
        intro e w' hRr
        obtain ⟨R, hG, hLl, -⟩ := hRr.lv n2
        obtain ⟨x, y, z⟩ := ft_step0 hA hLl
        exact ⟨R, hG, x, y, z⟩
      · refine (restL_any hS 72 l h (rn l h) s2 nb2 (by omega) bl bh n1 ⟨fun k hk => Or.inr ⟨by omega, by omega⟩, Or.inr ⟨by omega, by omega⟩⟩ (hv2.hold hH ⟨fun k hk => Or.inr ⟨by omega, by omega⟩, Or.inr ⟨by omega, by omega⟩⟩)).mono ?_
        intro e w' hRr
        obtain ⟨R, hG, hLl, -⟩ := hRr.lv n1
        obtain ⟨x, y, z⟩ := ft_step1 bu bv hA hLl
        exact ⟨R, hG, x, y, z⟩
      · refine (ecubeL_any p0 c (c + 1) x W' (hH.cell (Or.inr ⟨by omega, by omega⟩) c0) (hH.cell (Or.inr ⟨by omega, by omega⟩) c1) _ most _ (sCubeAt hS hR LV hH (fun g h1 h2 => Or.inr ⟨h1, h2⟩))).mono ?_
        intro e w' hG
        obtain ⟨x, y, z⟩ := ft_step2 hR hl104 hA rfl
        exact ⟨_, hG, x, y, z⟩)
    (fun k hk' => by
      have : k = 0 ∨ k = 1 ∨ k = 2 := by omega
      rcases this with rfl | rfl | rfl
      · exact Try.call58
      · exact Try.call58
      · exact Try.call60)
  refine M.mono ?_
  rintro e w' ⟨R, ⟨g1, g2, g3⟩, hn0, hs⟩
  refine ⟨R, ⟨g1, g2.less (fun k hk => Or.inl hk), (Hold.of hB).trans (g3.less (fun k hk => Or.inl hk))⟩, ⟨fun q hq => hs q hq, fun h => ?_⟩, fun h => (hn0 h).1⟩
  obtain ⟨x, y⟩ := hn0 h
  refine ⟨y, ?_, ?_⟩
  · rw [x]; exact Ext.refl _
  · rw [x]; exact S0.wf
theorem fixed_all (a kd b ks : Nat) (p : Int) (l h u v : Nat) (ha : a < 4294967296) (hb : b < 4294967296) (hkd : kd ≤ 32) (hks : ks ≤ 32) (hp : p = -1 ∨ 0 ≤ p ∧ p ≤ 255) (bl : l < 65536) (bh : h < 65536) (bu : u < 65536) (bv : v < 65536) (qn : Nat) (hqn : pq p = (qn : Int)) (hq8 : qn < 256) (w : World) :
    Calls Try.prog 40 #[fv a (kd : Nat) b (ks : Nat) p l h u v] w fun e w' => ∃ x, e = .returned x ∧ LitAt w' w.heap.size x (fxL a kd b ks p qn l h u v) ∧ Below w.heap.size w w' := by
  unfold fxL
  by_cases c : p = -1
  · rw [if_pos c]
    exact (fixed_any a kd b ks p l h u v ha hb hkd hks hp c bl bh bu bv qn hqn hq8 w).mono fun e w' ⟨x, h1, h2, h3⟩ => ⟨x, h1, h2.at, h3⟩
  · rw [if_neg c]
    exact (fixed_one a kd b ks p l h u v ha hb hkd hks hp c bl bh bu bv qn hqn hq8 w).mono fun e w' ⟨x, h1, h2, h3⟩ => ⟨x, h1, h2.at, h3⟩
end Go.Proofs.Ytggcbklififcgab
/- The set of a filter. -/
namespace Go.Proofs.Ytggcbklififcgab
open Go.RowKit
set_option linter.unusedVariables false

theorem c9_on {V V' : World} {b : Nat} {c0 c1 c2 c3 c4 c5 c6 c7 c8 : Value} (h : V.cell? ⟨b, 0, none⟩ = some c0 ∧ V.cell? ⟨b, 1, none⟩ = some c1 ∧ V.cell? ⟨b, 2, none⟩ = some c2 ∧ V.cell? ⟨b, 3, none⟩ = some c3 ∧ V.cell? ⟨b, 4, none⟩ = some c4 ∧ V.cell? ⟨b, 5, none⟩ = some c5 ∧ V.cell? ⟨b, 6, none⟩ = some c6 ∧ V.cell? ⟨b, 7, none⟩ = some c7 ∧ V.cell? ⟨b, 8, none⟩ = some c8) (hb : Below V.heap.size V V') :
    V'.cell? ⟨b, 0, none⟩ = some c0 ∧ V'.cell? ⟨b, 1, none⟩ = some c1 ∧ V'.cell? ⟨b, 2, none⟩ = some c2 ∧ V'.cell? ⟨b, 3, none⟩ = some c3 ∧ V'.cell? ⟨b, 4, none⟩ = some c4 ∧ V'.cell? ⟨b, 5, none⟩ = some c5 ∧ V'.cell? ⟨b, 6, none⟩ = some c6 ∧ V'.cell? ⟨b, 7, none⟩ = some c7 ∧ V'.cell? ⟨b, 8, none⟩ = some c8 := by
  obtain ⟨a0, a1, a2, a3, a4, a5, a6, a7, a8⟩ := h
  have f : ∀ (o : Nat) (c : Value), V.cell? ⟨b, o, none⟩ = some c → V'.cell? ⟨b, o, none⟩ = some c := fun o c h => (hb.cell (p := ⟨b, o, none⟩) (cell_lt (by rw [h]; rfl))).trans h
  exact ⟨f _ _ a0, f _ _ a1, f _ _ a2, f _ _ a3, f _ _ a4, f _ _ a5, f _ _ a6, f _ _ a7, f _ _ a8⟩
set_option maxRecDepth 100000 in
set_option maxHeartbeats 8000000 in
theorem filter_any {Z : Nat → Prop} {p0 most : Nat} {W : World} {ns : List Nd} (hS : Sta Z p0 W most ns) (a kd b ks : Nat) (p : Int) (l h u v : Nat) (ha : a < 4294967296) (hb : b < 4294967296) (hkd : kd ≤ 32) (hks : ks ≤ 32) (hp : p = -1 ∨ 0 ≤ p ∧ p ≤ 255) (bl : l < 65536) (bh : h < 65536) (bu : u < 65536) (bv : v < 65536)
    (hok : chk (rightB a (kd : Nat)) (rightB b (ks : Nat)) p (decide (h < l)) (decide (v < u)) = 0) (qn : Nat) (hqn : pq p = (qn : Int)) (hq8 : qn < 256) :
    Calls Try.prog 17 #[.pointer (some ⟨p0, 0, none⟩), fv a (kd : Nat) b (ks : Nat) p l h u v] W (FtRet Z p0 most ns a kd b ks p qn l h u v W) := by
  have CK := Lib.hid (fun w => fcheck_any a (kd : Nat) b (ks : Nat) p l h u v ha hb w)
  rw [hok] at CK
  have CR := Lib.hid (fun (f lo hi : Nat) (b1 : lo < 65536) (b2 : hi < 65536) (w : World) => rest_any p0 f lo hi b1 b2 w)
  have CX := Lib.hid (fun w => fixed_all a kd b ks p l h u v ha hb hkd hks hp bl bh bu bv qn hqn hq8 w)
  have CC := Lib.hid (fun (v : Value) (w : World) (h : ∃ a n c, v = .slice a n c) => ecube_any p0 v w h)
  have S0 := Lib.hid hS
  unfold FtRet
  clear hS hok hqn hp
  unfold fv at *
  go_enter Try.func17, Try.ntmps17
  go_upto_region 1 with fail
  refine at_code (S := fun V => Blk V W.heap.size (fc a (kd : Nat) b (ks : Nat) p l h u v) ∧ Below W.heap.size W V ∧ V.heap.size = W.heap.size + 1) ⟨Blk.new _ _ _, bel_al (Below.refl _ _) _, by simp⟩ (fun W1 hW => ?_)
  obtain ⟨hX, hbb, hz⟩ := hW
  obtain ⟨x_0, x_1, x_2, x_3, x_4, x_5, x_6, x_7, x_8⟩ := cells9 hX
  have S1' := Lib.hid (S0.out.grow hbb (Y := fun k => k = W.heap.size) (fun k hk => by subst hk; exact ⟨Nat.le_refl _, by omega⟩))
  have X1 := Lib.hid hX
  have B1 := Lib.hid hbb
  clear hX hbb hz S0
  go_wp2_with fail
  refine (CK.out _).mono ?_
  rintro e wc ⟨rfl, hbx⟩
  have S1 := Lib.hid (S1'.out.on hbx)
  have X2 := Lib.hid (X1.out.on hbx)
  have B2 := Lib.hid (bel_on' B1.out hbx)
  clear x_0 x_1 x_2 x_3 x_4 x_5 x_6 x_7 x_8 hbx X1 B1 S1' CK
  obtain ⟨x_0, x_1, x_2, x_3, x_4, x_5, x_6, x_7, x_8⟩ := cells9 X2.out
  go_upto_region 6 with fail
  refine wp_region_noPanic ?_
  refine wp_region_along (S := fun V => V.cell? ⟨W.heap.size, 0, none⟩ = some (.int .u32 (a : Nat)) ∧ V.cell? ⟨W.heap.size, 1, none⟩ = some (.int .i64 (kd : Nat)) ∧ V.cell? ⟨W.heap.size, 2, none⟩ = some (.int .u32 (b : Nat)) ∧ V.cell? ⟨W.heap.size, 3, none⟩ = some (.int .i64 (ks : Nat)) ∧ V.cell? ⟨W.heap.size, 4, none⟩ = some (.int .i64 p) ∧ V.cell? ⟨W.heap.size, 5, none⟩ = some (.int .u16 (l : Nat)) ∧ V.cell? ⟨W.heap.size, 6, none⟩ = some (.int .u16 (h : Nat)) ∧ V.cell? ⟨W.heap.size, 7, none⟩ = some (.int .u16 (u : Nat)) ∧ V.cell? ⟨W.heap.size, 8, none⟩ = some (.int .u16 (v : Nat))) ([(0, true), (1, true), (2, true), (3, true), (5, true), (6, true), (7, true), (9, true), (10, true), (4, false), (8, false), (11, false), (12, false), (13, false), (14, false), (15, true)] ++ ([(16, true), (17, true), (18, true)])) (by kernel_rfl) (by as_aux_lemma => kernel_rfl) (by kernel_rfl) (by kernel_rfl) (alongPre_append _ _ _ (by as_aux_lemma => kernel_rfl) (by as_aux_lemma => kernel_rfl)) (by as_aux_lemma => kernel_rfl) (fun _ _ _ _ _ h => h) ⟨x_0, x_1, x_2, x_3, x_4, x_5, x_6, x_7, x_8⟩ (fun hH => ?_)
  simp only [List.cons_append, List.nil_append, stepsOf, pickOp]
  iterate 9 (first | (refine along_skip (by rfl) ?_; try simp only [Act.put, List.setIfInBounds_toArray, List.set_cons_zero, List.set_cons_succ]) | (refine along_pure ?_ (by rfl) (fun w hSw => ?_) ?_; rotate_left; ((try dsimp only at hSw); go_simp; try with_reducible rfl); try simp only [Act.put, List.setIfInBounds_toArray, List.set_cons_zero, List.set_cons_succ]))
  refine along_bar (fun K hK => ?_)
  go_simp
  refine (CR.out 88 u v bu bv _).mono ?_
  rintro e w2 ⟨nb1, rfl, hV, hn1, hn2, hbx⟩
  try go_wp2_with fail
  refine hK.out _ _ (c9_on hH hbx) (fun hH' => ?_)
  clear hK K hH
  have hH := hH'
  clear hH'
  have V2 := Lib.hid hV
  have N2 := Lib.hid (And.intro hn1 hn2)
  have P2 := Lib.hid (bel_on' (Below.refl _ _).drew hbx : Below wc.heap.size wc w2)
  clear hV hn1 hn2 hbx
  try simp only [Act.put, List.setIfInBounds_toArray, List.set_cons_zero, List.set_cons_succ]
  refine along_bar (fun K hK => ?_)
  go_simp
  refine (CR.out 72 l h bl bh _).mono ?_
  rintro e w3 ⟨nb2, rfl, hV, hn1, hn2, hbx⟩
  try go_wp2_with fail
  refine hK.out _ _ (c9_on hH hbx) (fun hH' => ?_)
  clear hK K hH
  have hH := hH'
  clear hH'
  have V3 := Lib.hid hV
  have N3 := Lib.hid (And.intro hn1 hn2)
  have V2' := Lib.hid (V2.out.on hbx)
  have P3 := Lib.hid (bel_on' P2.out hbx)
  have Z23 := Lib.hid hbx.size
  clear hV hn1 hn2 hbx V2 CR
  try simp only [Act.put, List.setIfInBounds_toArray, List.set_cons_zero, List.set_cons_succ]
  refine along_bar (fun K hK => ?_)
  go_simp
  refine (CX.out _).mono ?_
  rintro e w4 ⟨x, rfl, hL, hbx⟩
  try go_wp2_with fail
  refine hK.out _ _ (c9_on hH hbx) (fun hH' => ?_)
  clear hK K hH
  have hH := hH'
  clear hH'
  have L4 := Lib.hid hL
  have V3' := Lib.hid (V3.out.on hbx)
  have V2'' := Lib.hid (V2'.out.on hbx)
  have P4 := Lib.hid (bel_on' P3.out hbx)
  have Z34 := Lib.hid hbx.size
  clear hL hbx V3 V2' CX
  try simp only [Act.put, List.setIfInBounds_toArray, List.set_cons_zero, List.set_cons_succ]
  refine along_bar (fun K hK => ?_)
  go_simp
  refine (CC.out x _ L4.out.slice).mono ?_
  rintro e w5 ⟨rfl, hc0, hc1, hz5, hbx⟩
  try go_wp2_with fail
  refine hK.out _ _ (c9_on hH hbx) (fun hH' => ?_)
  clear hK K hH
  have hH := hH'
  clear hH'
  have C5 := Lib.hid (And.intro hc0 (And.intro hc1 hz5))
  have P45 := Lib.hid hbx
  have V3 := Lib.hid (V3'.out.on hbx)
  have V2 := Lib.hid (V2''.out.on hbx)
  clear hc0 hc1 hz5 hbx V3' V2'' CC
  try simp only [Act.put, List.setIfInBounds_toArray, List.set_cons_zero, List.set_cons_succ]
  refine along_bar (fun K hK => ?_)
  go_simp
  refine hK.out _ _ (c9_on hH (bel_al (Below.refl _ _) _)) (fun hH' => ?_)
  clear hK K hH
  have hH := hH'
  clear hH'
  refine at_along (R := fun V => Blk V w5.heap.size [.func (.func 58) #[] (rsCap wc.heap.size nb1), .func (.func 58) #[] (rsCap w2.heap.size nb2), .func (.func 60) #[] #[.pointer (some ⟨w4.heap.size, 0, none⟩), .pointer (some ⟨w4.heap.size + 1, 0, none⟩)]] ∧ Below w5.heap.size w5 V ∧ V.heap.size = w5.heap.size + 1) ⟨Blk.new _ _ _, bel_al (Below.refl _ _) _, by simp⟩ (fun V hV => ?_)
  obtain ⟨hk, hbx, hz⟩ := hV
  have f1 : ∀ (o : Nat) (c : Value), w5.cell? ⟨o, 0, none⟩ = some c → V.cell? ⟨o, 0, none⟩ = some c := fun o c h => (hbx.cell (p := ⟨o, 0, none⟩) (cell_lt (o := 0) (by rw [h]; rfl))).trans h
  have z2 := P2.out.size
  have z3 := P3.out.size
  have z4 := P4.out.size
  have z5 := P45.out.size
  have z23 := Z23.out
  have z34 := Z34.out
  have zb := hbx.size
  have CT := Lib.hid (filter_meet S1.out P4.out (bel_on' P45.out hbx) (L4.out.base (by omega)) (V2.out.on hbx) (Nat.le_refl _) N2.out.1 (by have := N2.out.2; omega) (V3.out.on hbx) (by omega) N3.out.1 (by have := N3.out.2; omega) (f1 _ _ C5.out.1) (f1 _ _ C5.out.2.1) (by omega) (by have := C5.out.2.2; omega) hk (by omega) (by omega) hkd hks bl bh bu bv)
  clear hk hbx hz f1 z2 z3 z4 z5 z23 z34 zb V2 V3 C5 L4 N2 N3 P2 P3 P4 P45 Z23 Z34
  try simp only [Act.put, List.setIfInBounds_toArray, List.set_cons_zero, List.set_cons_succ]
  refine along_bar (fun K hK => ?_)
  go_simp
  refine CT.out.mono ?_
  rintro e w6 ⟨R, ⟨rfl, hS6, hH6⟩, hL6, hN6⟩
  try go_wp2_with fail
  refine hK.out _ _ ⟨hH6.cell (Or.inr rfl) x_0, hH6.cell (Or.inr rfl) x_1, hH6.cell (Or.inr rfl) x_2, hH6.cell (Or.inr rfl) x_3, hH6.cell (Or.inr rfl) x_4, hH6.cell (Or.inr rfl) x_5, hH6.cell (Or.inr rfl) x_6, hH6.cell (Or.inr rfl) x_7, hH6.cell (Or.inr rfl) x_8⟩ (fun hH' => ?_)
  clear hK K hH
  have hH := hH'
  clear hH'
  have FIN := Lib.hid (And.intro hS6 (And.intro hH6 (And.intro hL6 hN6)))
  clear hS6 hH6 hL6 hN6 CT
  try simp only [Act.put, List.setIfInBounds_toArray, List.set_cons_zero, List.set_cons_succ]
  iterate 4 (first | (refine along_skip (by rfl) ?_; try simp only [Act.put, List.setIfInBounds_toArray, List.set_cons_zero, List.set_cons_succ]) | (refine along_pure ?_ (by rfl) (fun w hSw => ?_) ?_; rotate_left; ((try dsimp only at hSw); go_simp; try with_reducible rfl); try simp only [Act.put, List.setIfInBounds_toArray, List.set_cons_zero, List.set_cons_succ]))
  refine along_end (NoPanic.normal ?_)
  have OUT := Lib.hid (show Sta Z p0 w6 most R.2 ∧ Hold Z W w6 from ⟨FIN.out.1.less (fun k hk => Or.inl hk), (Hold.of B2.out).trans (FIN.out.2.1.less (fun k hk => Or.inl hk))⟩)
  clear hH x_0 x_1 x_2 x_3 x_4 x_5 x_6 x_7 x_8
  go_wp2
  go_ret2
  exact ⟨R, ⟨rfl, OUT.out.1, OUT.out.2⟩, FIN.out.2.2.1, FIN.out.2.2.2⟩
set_option maxHeartbeats 1000000 in
theorem filter_bad (p0 : Nat) (a : Nat) (n : Int) (b : Nat) (m p : Int) (l h u v : Nat) (ha : a < 4294967296) (hb : b < 4294967296) (E : Int) (hE : chk (rightB a n) (rightB b m) p (decide (h < l)) (decide (v < u)) = E) (h0 : E ≠ 0) (W : World) :
    Calls Try.prog 17 #[.pointer (some ⟨p0, 0, none⟩), fv a n b m p l h u v] W fun e w' => e = .returned (.tuple #[.int .i64 0, .int .i64 E]) ∧ Below W.heap.size W w' := by
  have CK := Lib.hid (fun w => fcheck_any a n b m p l h u v ha hb w)
  rw [hE] at CK
  have e0 : (E != 0) = true := by simp [h0]
  clear hE h0
  unfold fv at *
  go_enter Try.func17, Try.ntmps17
  go_upto_region 1 with fail
  refine at_code (S := fun V => Blk V W.heap.size (fc a n b m p l h u v) ∧ Below W.heap.size W V) ⟨Blk.new _ _ _, bel_al (Below.refl _ _) _⟩ (fun W1 hW => ?_)
  obtain ⟨hX, hbb⟩ := hW
  obtain ⟨x_0, x_1, x_2, x_3, x_4, x_5, x_6, x_7, x_8⟩ := cells9 hX
  have B1 := Lib.hid hbb
  clear hX hbb
  go_wp2_with fail
  refine (CK.out _).mono ?_
  rintro e wc ⟨rfl, hbx⟩
  have B2 := Lib.hid (bel_on' B1.out hbx)
  clear x_0 x_1 x_2 x_3 x_4 x_5 x_6 x_7 x_8 hbx CK
  go_wp2
  go_ret2
  exact ⟨rfl, B2.out⟩
set_option maxHeartbeats 1000000 in
theorem filter_nil (a n b m p l h u v : Int) (W : World) :
    Calls Try.prog 17 #[.pointer none, fv a n b m p l h u v] W fun e w' => e = .returned (.tuple #[.int .i64 0, .int .i64 2]) ∧ Below W.heap.size W w' := by
  unfold fv
  go_enter Try.func17, Try.ntmps17
  go_wp2
  go_ret2
  exact ⟨rfl, bel_al (Below.refl _ _) _⟩
set_option maxHeartbeats 1000000 in
theorem header_nil (d s q x y : Int) (W : World) :
    Calls Try.prog 21 #[.pointer none, hv d s q x y] W fun e w' => e = .returned (.tuple #[.int .i64 0, .int .i64 2]) ∧ Below W.heap.size W w' := by
  unfold hv
  go_enter Try.func21, Try.ntmps21
  go_wp2
  go_ret2
  exact ⟨rfl, bel_al (Below.refl _ _) _⟩
end Go.Proofs.Ytggcbklififcgab
/- Whether two filters are one. -/
namespace Go.Proofs.Ytggcbklififcgab
open Go.RowKit
set_option linter.unusedVariables false

set_option maxHeartbeats 4000000 in
theorem eq_flt (a n b m p l h u v a' n' b' m' p' l' h' u' v' : Int) (w : World) :
    (Op.equalIn 10000 47 (.agg #[.int .u32 a, .int .i64 n, .int .u32 b, .int .i64 m, .int .i64 p, .int .u16 l, .int .u16 h, .int .u16 u, .int .u16 v]) (.agg #[.int .u32 a', .int .i64 n', .int .u32 b', .int .i64 m', .int .i64 p', .int .u16 l', .int .u16 h', .int .u16 u', .int .u16 v'])).run Try.prog w
      = .ok ((a == a' && n == n') && ((b == b' && m == m') && ((p == p') && ((l == l' && h == h') && (u == u' && v == v'))))) w := by
  go_simp
  (repeat' split) <;> simp_all
end Go.Proofs.Ytggcbklififcgab
/- EncParts's walk. -/
namespace Go.Proofs.Ytggcbklififcgab
open Go.RowKit
set_option linter.unusedVariables false

/-- Two blocks that a law's arguments lie in. -/
def Fx2 (W : World) (cr cp : List Value) (V : World) : Prop := Blk V W.heap.size cr ∧ Blk V (W.heap.size + 1) cp ∧ Below W.heap.size W V ∧ W.heap.size + 2 ≤ V.heap.size
theorem Fx2.on {W V V' : World} {cp cr : List Value} (h : Fx2 W cr cp V) (hb : Below V.heap.size V V') : Fx2 W cr cp V' := by
  obtain ⟨h1, h2, h4, h5⟩ := h
  exact ⟨h1.on hb, h2.on hb, bel_on' h4 hb, by have := hb.size; omega⟩
theorem Fx2.hold {Z : Nat → Prop} {W V V' : World} {cp cr : List Value} (h : Fx2 W cr cp V) (hH : Hold Z V V') (hz : ∀ k, k < W.heap.size + 2 → Z k) : Fx2 W cr cp V' := by
  obtain ⟨h1, h2, h4, h5⟩ := h
  exact ⟨h1.hold hH (hz _ (by omega)), h2.hold hH (hz _ (by omega)), h4.trans (hH.below (by omega) (fun k hk => hz k (by omega))), by have := hH.size; omega⟩
theorem or_u32 (a b : Nat) (ha : a < 4294967296) (hb : b < 4294967296) : bits .or .u32 (a : Int) (b : Int) = ((a ||| b : Nat) : Int) := by
  have h : a ||| b < 2 ^ 32 := Nat.or_lt_two_pow (n := 32) ha hb
  unfold bits
  have e : (BitVec.ofInt 32 (a : Int) ||| BitVec.ofInt 32 (b : Int)).toNat = a ||| b := by
    rw [BitVec.ofInt_natCast, BitVec.ofInt_natCast, BitVec.toNat_or, BitVec.toNat_ofNat, BitVec.toNat_ofNat, Nat.mod_eq_of_lt (by omega), Nat.mod_eq_of_lt (by omega)]
  show IntKind.u32.wrap (((BitVec.ofInt 32 (a : Int) ||| BitVec.ofInt 32 (b : Int)).toNat : Nat) : Int) = _
  rw [e, IntKind.wrap_u32]
  omega
theorem or_half {A k : Nat} (hk : k < 32) (hr : A % 2 ^ (32 - k) = 0) : A ||| 2 ^ (31 - k) = A + 2 ^ (31 - k) := by
  apply Nat.eq_of_testBit_eq
  intro j
  rw [half_up hk hr, Nat.testBit_or, Nat.testBit_two_pow]
  by_cases c : j = 31 - k
  · subst c; simp
  · rw [if_neg c]; simp; omega
set_option maxRecDepth 100000 in
set_option maxHeartbeats 4000000 in
theorem ep_gt (lo hi at_ A : Nat) (n : Int) (h : (hi : Int) < (lo : Int)) (W : World) :
    Calls Try.prog 6 #[.agg #[.int .u16 (lo : Nat), .int .u16 (hi : Nat)], .int .u16 (at_ : Nat), pv A n] W fun e w' => e = .returned (.bool true) ∧ Below W.heap.size W w' := by
  have CW := Lib.hid (fun w => awake_any w)
  go_enter Try.func6, Try.ntmps6
  go_upto_region 1 with fail
  refine at_code (S := Fx2 W [.int .u16 (lo : Nat), .int .u16 (hi : Nat)] [.int .u32 (A : Nat), .int .i64 n]) ⟨?_, ?_, bel_al (bel_al (Below.refl _ _) _) _, by simp⟩ (fun W1 hW => ?_)
  · exact (Blk.new W _ [.int .u16 (lo : Nat), .int .u16 (hi : Nat)]).on (bel_al (Below.refl _ _) _)
  · have k := Blk.new (W.alloc (.cells #[.int .u16 (lo : Nat), .int .u16 (hi : Nat)] 27)) 24 [.int .u32 (A : Nat), .int .i64 n]
    rw [World.size_alloc] at k
    exact k
  have X1 := Lib.hid hW
  obtain ⟨r_0, r_1⟩ : _ ∧ _ := ⟨X1.out.1.1 0 _ rfl, X1.out.1.1 1 _ rfl⟩
  obtain ⟨p_0, p_1⟩ : _ ∧ _ := ⟨X1.out.2.1.1 0 _ rfl, X1.out.2.1.1 1 _ rfl⟩
  clear hW
  go_wp2_with fail
  refine (CW.out _).mono ?_
  rintro e wa ⟨rfl, hbx⟩
  have FIN := Lib.hid (bel_on' X1.out.2.2.1 hbx)
  clear hbx
  go_wp2
  go_ret
  exact ⟨rfl, FIN.out⟩
set_option maxRecDepth 100000 in
set_option maxHeartbeats 4000000 in
theorem ep_low (lo hi at_ A : Nat) (n : Int) (h1 : ¬ (hi : Int) < (lo : Int)) (h : (at_ : Int) < (lo : Int)) (W : World) :
    Calls Try.prog 6 #[.agg #[.int .u16 (lo : Nat), .int .u16 (hi : Nat)], .int .u16 (at_ : Nat), pv A n] W fun e w' => e = .returned (.bool true) ∧ Below W.heap.size W w' := by
  have CW := Lib.hid (fun w => awake_any w)
  go_enter Try.func6, Try.ntmps6
  go_upto_region 1 with fail
  refine at_code (S := Fx2 W [.int .u16 (lo : Nat), .int .u16 (hi : Nat)] [.int .u32 (A : Nat), .int .i64 n]) ⟨?_, ?_, bel_al (bel_al (Below.refl _ _) _) _, by simp⟩ (fun W1 hW => ?_)
  · exact (Blk.new W _ [.int .u16 (lo : Nat), .int .u16 (hi : Nat)]).on (bel_al (Below.refl _ _) _)
  · have k := Blk.new (W.alloc (.cells #[.int .u16 (lo : Nat), .int .u16 (hi : Nat)] 27)) 24 [.int .u32 (A : Nat), .int .i64 n]
    rw [World.size_alloc] at k
    exact k
  have X1 := Lib.hid hW
  obtain ⟨r_0, r_1⟩ : _ ∧ _ := ⟨X1.out.1.1 0 _ rfl, X1.out.1.1 1 _ rfl⟩
  obtain ⟨p_0, p_1⟩ : _ ∧ _ := ⟨X1.out.2.1.1 0 _ rfl, X1.out.2.1.1 1 _ rfl⟩
  clear hW
  go_wp2_with fail
  refine (CW.out _).mono ?_
  rintro e wa ⟨rfl, hbx⟩
  have FIN := Lib.hid (bel_on' X1.out.2.2.1 hbx)
  clear hbx
  go_wp2
  go_ret
  exact ⟨rfl, FIN.out⟩
set_option maxRecDepth 100000 in
set_option maxHeartbeats 4000000 in
theorem ep_high (lo hi at_ A : Nat) (n : Int) (h1 : ¬ (hi : Int) < (lo : Int)) (h2 : ¬ (at_ : Int) < (lo : Int)) (h : (hi : Int) ≤ (at_ : Int)) (W : World) :
    Calls Try.prog 6 #[.agg #[.int .u16 (lo : Nat), .int .u16 (hi : Nat)], .int .u16 (at_ : Nat), pv A n] W fun e w' => e = .returned (.bool true) ∧ Below W.heap.size W w' := by
  have CW := Lib.hid (fun w => awake_any w)
  go_enter Try.func6, Try.ntmps6
  go_upto_region 1 with fail
  refine at_code (S := Fx2 W [.int .u16 (lo : Nat), .int .u16 (hi : Nat)] [.int .u32 (A : Nat), .int .i64 n]) ⟨?_, ?_, bel_al (bel_al (Below.refl _ _) _) _, by simp⟩ (fun W1 hW => ?_)
  · exact (Blk.new W _ [.int .u16 (lo : Nat), .int .u16 (hi : Nat)]).on (bel_al (Below.refl _ _) _)
  · have k := Blk.new (W.alloc (.cells #[.int .u16 (lo : Nat), .int .u16 (hi : Nat)] 27)) 24 [.int .u32 (A : Nat), .int .i64 n]
    rw [World.size_alloc] at k
    exact k
  have X1 := Lib.hid hW
  obtain ⟨r_0, r_1⟩ : _ ∧ _ := ⟨X1.out.1.1 0 _ rfl, X1.out.1.1 1 _ rfl⟩
  obtain ⟨p_0, p_1⟩ : _ ∧ _ := ⟨X1.out.2.1.1 0 _ rfl, X1.out.2.1.1 1 _ rfl⟩
  clear hW
  go_wp2_with fail
  refine (CW.out _).mono ?_
  rintro e wa ⟨rfl, hbx⟩
  have FIN := Lib.hid (bel_on' X1.out.2.2.1 hbx)
  clear hbx
  go_wp2
  go_ret
  exact ⟨rfl, FIN.out⟩
set_option maxRecDepth 100000 in
set_option maxHeartbeats 4000000 in
theorem ep_wrong (lo hi at_ A : Nat) (n : Int) (h1 : ¬ (hi : Int) < (lo : Int)) (h2 : ¬ (at_ : Int) < (lo : Int)) (h3 : ¬ (hi : Int) ≤ (at_ : Int)) (W : World)
    (CRi : Hid (∀ w, Calls Try.prog 11 #[pv A n] w fun e w' => e = .returned (.bool false) ∧ Below w.heap.size w w')) :
    Calls Try.prog 6 #[.agg #[.int .u16 (lo : Nat), .int .u16 (hi : Nat)], .int .u16 (at_ : Nat), pv A n] W fun e w' => e = .returned (.bool true) ∧ Below W.heap.size W w' := by
  have CW := Lib.hid (fun w => awake_any w)
  go_enter Try.func6, Try.ntmps6
  go_upto_region 1 with fail
  refine at_code (S := Fx2 W [.int .u16 (lo : Nat), .int .u16 (hi : Nat)] [.int .u32 (A : Nat), .int .i64 n]) ⟨?_, ?_, bel_al (bel_al (Below.refl _ _) _) _, by simp⟩ (fun W1 hW => ?_)
  · exact (Blk.new W _ [.int .u16 (lo : Nat), .int .u16 (hi : Nat)]).on (bel_al (Below.refl _ _) _)
  · have k := Blk.new (W.alloc (.cells #[.int .u16 (lo : Nat), .int .u16 (hi : Nat)] 27)) 24 [.int .u32 (A : Nat), .int .i64 n]
    rw [World.size_alloc] at k
    exact k
  have X1 := Lib.hid hW
  obtain ⟨r_0, r_1⟩ : _ ∧ _ := ⟨X1.out.1.1 0 _ rfl, X1.out.1.1 1 _ rfl⟩
  obtain ⟨p_0, p_1⟩ : _ ∧ _ := ⟨X1.out.2.1.1 0 _ rfl, X1.out.2.1.1 1 _ rfl⟩
  clear hW
  go_wp2_with fail
  refine (CRi.out _).mono ?_
  rintro e w2 ⟨rfl, hb⟩
  have X2 := Lib.hid (X1.out.on hb)
  clear p_0 p_1 r_0 r_1
  obtain ⟨p_0, p_1⟩ : _ ∧ _ := ⟨X2.out.2.1.1 0 _ rfl, X2.out.2.1.1 1 _ rfl⟩
  clear hb CRi X1
  go_wp2_with fail
  refine (CW.out _).mono ?_
  rintro e wa ⟨rfl, hbx⟩
  have FIN := Lib.hid (bel_on' X2.out.2.2.1 hbx)
  clear hbx
  go_wp2
  go_ret
  exact ⟨rfl, FIN.out⟩
set_option maxRecDepth 100000 in
set_option maxHeartbeats 4000000 in
theorem ep_full (lo hi at_ A : Nat) (h1 : ¬ (hi : Int) < (lo : Int)) (h2 : ¬ (at_ : Int) < (lo : Int)) (h3 : ¬ (hi : Int) ≤ (at_ : Int)) (W : World)
    (CRi : Hid (∀ w, Calls Try.prog 11 #[pv A 32] w fun e w' => e = .returned (.bool true) ∧ Below w.heap.size w w')) :
    Calls Try.prog 6 #[.agg #[.int .u16 (lo : Nat), .int .u16 (hi : Nat)], .int .u16 (at_ : Nat), pv A 32] W fun e w' => e = .returned (.bool true) ∧ Below W.heap.size W w' := by
  have CW := Lib.hid (fun w => awake_any w)
  go_enter Try.func6, Try.ntmps6
  go_upto_region 1 with fail
  refine at_code (S := Fx2 W [.int .u16 (lo : Nat), .int .u16 (hi : Nat)] [.int .u32 (A : Nat), .int .i64 32]) ⟨?_, ?_, bel_al (bel_al (Below.refl _ _) _) _, by simp⟩ (fun W1 hW => ?_)
  · exact (Blk.new W _ [.int .u16 (lo : Nat), .int .u16 (hi : Nat)]).on (bel_al (Below.refl _ _) _)
  · have k := Blk.new (W.alloc (.cells #[.int .u16 (lo : Nat), .int .u16 (hi : Nat)] 27)) 24 [.int .u32 (A : Nat), .int .i64 32]
    rw [World.size_alloc] at k
    exact k
  have X1 := Lib.hid hW
  obtain ⟨r_0, r_1⟩ : _ ∧ _ := ⟨X1.out.1.1 0 _ rfl, X1.out.1.1 1 _ rfl⟩
  obtain ⟨p_0, p_1⟩ : _ ∧ _ := ⟨X1.out.2.1.1 0 _ rfl, X1.out.2.1.1 1 _ rfl⟩
  clear hW
  go_wp2_with fail
  refine (CRi.out _).mono ?_
  rintro e w2 ⟨rfl, hb⟩
  have X2 := Lib.hid (X1.out.on hb)
  clear p_0 p_1 r_0 r_1
  obtain ⟨p_0, p_1⟩ : _ ∧ _ := ⟨X2.out.2.1.1 0 _ rfl, X2.out.2.1.1 1 _ rfl⟩
  clear hb CRi X1
  go_wp2_with fail
  refine (CW.out _).mono ?_
  rintro e wa ⟨rfl, hbx⟩
  have FIN := Lib.hid (bel_on' X2.out.2.2.1 hbx)
  clear hbx
  go_wp2
  go_ret
  exact ⟨rfl, FIN.out⟩
end Go.Proofs.Ytggcbklififcgab
/- EncFields's walk, way by way. -/
namespace Go.Proofs.Ytggcbklififcgab
open Go.RowKit
set_option linter.unusedVariables false

set_option maxRecDepth 100000 in
set_option maxHeartbeats 8000000 in
theorem ef_bad {PP PR : Nat → List Nd → Prop} (f : Int) (A : Nat) (n : Int) (lo hi d s q x y xa yb : Nat)  (W : World)
    (CA : Hid (∀ w, Calls Try.prog 9 #[hv d s q x y, .int .i64 f] w fun e w' => e = .returned (.tuple #[.int .u32 (xa : Nat), .bool true]) ∧ Below w.heap.size w w'))
    (CB : Hid (∀ w, Calls Try.prog 14 #[hv d s q x y, .int .i64 f] w fun e w' => e = .returned (.tuple #[.int .u16 (yb : Nat), .bool false]) ∧ Below w.heap.size w w'))
    (CPx : Hid (∀ Z p w, Sta Z p w 262144 [bot, top] → Calls Try.prog 10 #[.pointer (some ⟨p, 0, none⟩), .int .i64 f, pv A n] w fun e w' => ∃ (g : Nat) (ns1 : List Nd), e = .returned (.tuple #[.int .i64 (g : Nat), .int .i64 13]) ∧ Sta Z p w' 262144 ns1 ∧ Hold Z w w' ∧ PP g ns1))
    (CRg : Hid (∀ Z p w g ns1, PP g ns1 → Sta Z p w 262144 ns1 → Calls Try.prog 15 #[.pointer (some ⟨p, 0, none⟩), .int .i64 f, .agg #[.int .u16 (lo : Nat), .int .u16 (hi : Nat)]] w fun e w' => ∃ (g : Nat) (ns2 : List Nd), e = .returned (.tuple #[.int .i64 (g : Nat), .int .i64 1]) ∧ Sta Z p w' 262144 ns2 ∧ Hold Z w w' ∧ PR g ns2))
    (CRi : Hid (∀ w, Calls Try.prog 11 #[pv A n] w fun e w' => e = .returned (.bool false) ∧ Below w.heap.size w w')) :
    Calls Try.prog 3 #[.int .i64 f, pv A n, .agg #[.int .u16 (lo : Nat), .int .u16 (hi : Nat)], hv d s q x y] W fun e w' => e = .returned (.bool true) ∧ Below W.heap.size W w' := by
  have CN := Lib.hid (fun w => sNew 262144 (by omega) (by omega) w)
  have CW := Lib.hid (fun w => awake_any w)
  go_enter Try.func3, Try.ntmps3
  go_upto_region 1 with fail
  refine at_code (S := Fx W [.int .u32 (A : Nat), .int .i64 n] [.int .u16 (lo : Nat), .int .u16 (hi : Nat)] [.int .u32 (d : Nat), .int .u32 (s : Nat), .int .u8 (q : Nat), .int .u16 (x : Nat), .int .u16 (y : Nat)]) ⟨?_, ?_, ?_, bel_al (bel_al (bel_al (Below.refl _ _) _) _) _, by simp⟩ (fun W1 hW => ?_)
  · exact (Blk.new W _ [.int .u32 (A : Nat), .int .i64 n]).on (bel_al (bel_al (Below.refl _ _) _) _)
  · have k := Blk.new (W.alloc (.cells #[.int .u32 (A : Nat), .int .i64 n] 24)) 27 [.int .u16 (lo : Nat), .int .u16 (hi : Nat)]
    rw [World.size_alloc] at k
    exact k.on (bel_al (Below.refl _ _) _)
  · have k := Blk.new ((W.alloc (.cells #[.int .u32 (A : Nat), .int .i64 n] 24)).alloc (.cells #[.int .u16 (lo : Nat), .int .u16 (hi : Nat)] 27)) 29 [.int .u32 (d : Nat), .int .u32 (s : Nat), .int .u8 (q : Nat), .int .u16 (x : Nat), .int .u16 (y : Nat)]
    rw [World.size_alloc, World.size_alloc] at k
    exact k
  have X1 := Lib.hid hW
  clear hW
  go_wp2_with fail
  refine (CN.out _).mono ?_
  rintro e w2 ⟨p, rfl, hS, hb⟩
  obtain ⟨Z, hZ⟩ : ∃ Z : Nat → Prop, (fun k => k < W1.heap.size) = Z := ⟨_, rfl⟩
  rw [hZ] at hS
  have HZ : Hid (∀ k, k < W.heap.size + 3 → Z k) := Lib.hid (by rw [← hZ]; intro k hk; have := X1.out.2.2.2.2; show k < W1.heap.size; omega)
  have S2 := Lib.hid hS
  have X2 := Lib.hid (X1.out.on hb)
  clear hS hb CN hZ X1
  obtain ⟨h_0, h_1, h_2, h_3, h_4⟩ : _ ∧ _ ∧ _ ∧ _ ∧ _ := ⟨X2.out.2.2.1.1 0 _ rfl, X2.out.2.2.1.1 1 _ rfl, X2.out.2.2.1.1 2 _ rfl, X2.out.2.2.1.1 3 _ rfl, X2.out.2.2.1.1 4 _ rfl⟩
  go_wp2_with fail
  refine (CA.out _).mono ?_
  rintro e w3 ⟨rfl, hb⟩
  have S3 := Lib.hid (S2.out.on hb)
  have X3 := Lib.hid (X2.out.on hb)
  clear hb CA S2 X2
  clear h_0 h_1 h_2 h_3 h_4
  obtain ⟨p_0, p_1⟩ : _ ∧ _ := ⟨X3.out.1.1 0 _ rfl, X3.out.1.1 1 _ rfl⟩
  go_wp2_with fail
  refine (CPx.out Z p w3 S3.out).mono ?_
  rintro e w4 ⟨g, ns1, rfl, hS, hH, hP⟩
  have S4 := Lib.hid hS
  have X4 := Lib.hid (X3.out.hold hH HZ.out)
  have P4 := Lib.hid hP
  clear hS hH hP CPx S3 X3
  clear p_0 p_1
  obtain ⟨p_0, p_1⟩ : _ ∧ _ := ⟨X4.out.1.1 0 _ rfl, X4.out.1.1 1 _ rfl⟩
  go_wp2_with fail
  refine (CRi.out _).mono ?_
  rintro e w5 ⟨rfl, hb⟩
  have S5 := Lib.hid (S4.out.on hb)
  have X5 := Lib.hid (X4.out.on hb)
  clear hb CRi S4 X4
  clear p_0 p_1
  obtain ⟨h_0, h_1, h_2, h_3, h_4⟩ : _ ∧ _ ∧ _ ∧ _ ∧ _ := ⟨X5.out.2.2.1.1 0 _ rfl, X5.out.2.2.1.1 1 _ rfl, X5.out.2.2.1.1 2 _ rfl, X5.out.2.2.1.1 3 _ rfl, X5.out.2.2.1.1 4 _ rfl⟩
  go_wp2_with fail
  refine (CB.out _).mono ?_
  rintro e w8 ⟨rfl, hb⟩
  have S8 := Lib.hid (S5.out.on hb)
  have X8 := Lib.hid (X5.out.on hb)
  clear hb CB S5 X5
  clear h_0 h_1 h_2 h_3 h_4
  obtain ⟨r_0, r_1⟩ : _ ∧ _ := ⟨X8.out.2.1.1 0 _ rfl, X8.out.2.1.1 1 _ rfl⟩
  go_wp2_with fail
  refine (CRg.out Z p w8 g ns1 P4.out S8.out).mono ?_
  rintro e w9 ⟨g2, ns2, rfl, hS, hH, hR⟩
  have S9 := Lib.hid hS
  have X9 := Lib.hid (X8.out.hold hH HZ.out)
  have R9 := Lib.hid hR
  clear hS hH hR CRg S8 X8 P4
  clear r_0 r_1
  obtain ⟨r_0, r_1⟩ : _ ∧ _ := ⟨X9.out.2.1.1 0 _ rfl, X9.out.2.1.1 1 _ rfl⟩
  obtain ⟨h_0, h_1, h_2, h_3, h_4⟩ : _ ∧ _ ∧ _ ∧ _ ∧ _ := ⟨X9.out.2.2.1.1 0 _ rfl, X9.out.2.2.1.1 1 _ rfl, X9.out.2.2.1.1 2 _ rfl, X9.out.2.2.1.1 3 _ rfl, X9.out.2.2.1.1 4 _ rfl⟩
  go_wp2_with fail
  refine (CW.out _).mono ?_
  rintro e wa ⟨rfl, hbx⟩
  have FIN := Lib.hid (bel_on' X9.out.2.2.2.1 hbx)
  clear hbx
  go_wp2
  go_ret
  exact ⟨rfl, FIN.out⟩
end Go.Proofs.Ytggcbklififcgab
/- EncFields's walk, way by way. -/
namespace Go.Proofs.Ytggcbklififcgab
open Go.RowKit
set_option linter.unusedVariables false

set_option maxRecDepth 100000 in
set_option maxHeartbeats 8000000 in
theorem ef_pre {PP PR : Nat → List Nd → Prop} (f : Int) (A : Nat) (n : Int) (lo hi d s q x y xa yb : Nat) (T : Bool) (W : World)
    (CA : Hid (∀ w, Calls Try.prog 9 #[hv d s q x y, .int .i64 f] w fun e w' => e = .returned (.tuple #[.int .u32 (xa : Nat), .bool true]) ∧ Below w.heap.size w w'))
    (CB : Hid (∀ w, Calls Try.prog 14 #[hv d s q x y, .int .i64 f] w fun e w' => e = .returned (.tuple #[.int .u16 (yb : Nat), .bool false]) ∧ Below w.heap.size w w'))
    (CPx : Hid (∀ Z p w, Sta Z p w 262144 [bot, top] → Calls Try.prog 10 #[.pointer (some ⟨p, 0, none⟩), .int .i64 f, pv A n] w fun e w' => ∃ (g : Nat) (ns1 : List Nd), e = .returned (.tuple #[.int .i64 (g : Nat), .int .i64 0]) ∧ Sta Z p w' 262144 ns1 ∧ Hold Z w w' ∧ PP g ns1))
    (CRg : Hid (∀ Z p w g ns1, PP g ns1 → Sta Z p w 262144 ns1 → Calls Try.prog 15 #[.pointer (some ⟨p, 0, none⟩), .int .i64 f, .agg #[.int .u16 (lo : Nat), .int .u16 (hi : Nat)]] w fun e w' => ∃ (g : Nat) (ns2 : List Nd), e = .returned (.tuple #[.int .i64 (g : Nat), .int .i64 1]) ∧ Sta Z p w' 262144 ns2 ∧ Hold Z w w' ∧ PR g ns2))
    (CRi : Hid (∀ w, Calls Try.prog 11 #[pv A n] w fun e w' => e = .returned (.bool true) ∧ Below w.heap.size w w'))
    (CIn : Hid (∀ Z p w g ns1, PP g ns1 → Sta Z p w 262144 ns1 → Calls Try.prog 12 #[.pointer (some ⟨p, 0, none⟩), .int .i64 (g : Nat), hv d s q x y] w fun e w' => e = .returned (.bool T) ∧ Below w.heap.size w w'))
    (CHa : Hid (∀ w, Calls Try.prog 13 #[pv A n, .int .u32 (xa : Nat)] w fun e w' => e = .returned (.bool T) ∧ Below w.heap.size w w')) :
    Calls Try.prog 3 #[.int .i64 f, pv A n, .agg #[.int .u16 (lo : Nat), .int .u16 (hi : Nat)], hv d s q x y] W fun e w' => e = .returned (.bool true) ∧ Below W.heap.size W w' := by
  have CN := Lib.hid (fun w => sNew 262144 (by omega) (by omega) w)
  have CW := Lib.hid (fun w => awake_any w)
  go_enter Try.func3, Try.ntmps3
  go_upto_region 1 with fail
  refine at_code (S := Fx W [.int .u32 (A : Nat), .int .i64 n] [.int .u16 (lo : Nat), .int .u16 (hi : Nat)] [.int .u32 (d : Nat), .int .u32 (s : Nat), .int .u8 (q : Nat), .int .u16 (x : Nat), .int .u16 (y : Nat)]) ⟨?_, ?_, ?_, bel_al (bel_al (bel_al (Below.refl _ _) _) _) _, by simp⟩ (fun W1 hW => ?_)
  · exact (Blk.new W _ [.int .u32 (A : Nat), .int .i64 n]).on (bel_al (bel_al (Below.refl _ _) _) _)
  · have k := Blk.new (W.alloc (.cells #[.int .u32 (A : Nat), .int .i64 n] 24)) 27 [.int .u16 (lo : Nat), .int .u16 (hi : Nat)]
    rw [World.size_alloc] at k
    exact k.on (bel_al (Below.refl _ _) _)
  · have k := Blk.new ((W.alloc (.cells #[.int .u32 (A : Nat), .int .i64 n] 24)).alloc (.cells #[.int .u16 (lo : Nat), .int .u16 (hi : Nat)] 27)) 29 [.int .u32 (d : Nat), .int .u32 (s : Nat), .int .u8 (q : Nat), .int .u16 (x : Nat), .int .u16 (y : Nat)]
    rw [World.size_alloc, World.size_alloc] at k
    exact k
  have X1 := Lib.hid hW
  clear hW
  go_wp2_with fail
  refine (CN.out _).mono ?_
  rintro e w2 ⟨p, rfl, hS, hb⟩
  obtain ⟨Z, hZ⟩ : ∃ Z : Nat → Prop, (fun k => k < W1.heap.size) = Z := ⟨_, rfl⟩
  rw [hZ] at hS
  have HZ : Hid (∀ k, k < W.heap.size + 3 → Z k) := Lib.hid (by rw [← hZ]; intro k hk; have := X1.out.2.2.2.2; show k < W1.heap.size; omega)
  have S2 := Lib.hid hS
  have X2 := Lib.hid (X1.out.on hb)
  clear hS hb CN hZ X1
  obtain ⟨h_0, h_1, h_2, h_3, h_4⟩ : _ ∧ _ ∧ _ ∧ _ ∧ _ := ⟨X2.out.2.2.1.1 0 _ rfl, X2.out.2.2.1.1 1 _ rfl, X2.out.2.2.1.1 2 _ rfl, X2.out.2.2.1.1 3 _ rfl, X2.out.2.2.1.1 4 _ rfl⟩
  go_wp2_with fail
  refine (CA.out _).mono ?_
  rintro e w3 ⟨rfl, hb⟩
  have S3 := Lib.hid (S2.out.on hb)
  have X3 := Lib.hid (X2.out.on hb)
  clear hb CA S2 X2
  clear h_0 h_1 h_2 h_3 h_4
  obtain ⟨p_0, p_1⟩ : _ ∧ _ := ⟨X3.out.1.1 0 _ rfl, X3.out.1.1 1 _ rfl⟩
  go_wp2_with fail
  refine (CPx.out Z p w3 S3.out).mono ?_
  rintro e w4 ⟨g, ns1, rfl, hS, hH, hP⟩
  have S4 := Lib.hid hS
  have X4 := Lib.hid (X3.out.hold hH HZ.out)
  have P4 := Lib.hid hP
  clear hS hH hP CPx S3 X3
  clear p_0 p_1
  obtain ⟨p_0, p_1⟩ : _ ∧ _ := ⟨X4.out.1.1 0 _ rfl, X4.out.1.1 1 _ rfl⟩
  go_wp2_with fail
  refine (CRi.out _).mono ?_
  rintro e w5 ⟨rfl, hb⟩
  have S5 := Lib.hid (S4.out.on hb)
  have X5 := Lib.hid (X4.out.on hb)
  clear hb CRi S4 X4
  clear p_0 p_1
  obtain ⟨p_0, p_1⟩ : _ ∧ _ := ⟨X5.out.1.1 0 _ rfl, X5.out.1.1 1 _ rfl⟩
  obtain ⟨h_0, h_1, h_2, h_3, h_4⟩ : _ ∧ _ ∧ _ ∧ _ ∧ _ := ⟨X5.out.2.2.1.1 0 _ rfl, X5.out.2.2.1.1 1 _ rfl, X5.out.2.2.1.1 2 _ rfl, X5.out.2.2.1.1 3 _ rfl, X5.out.2.2.1.1 4 _ rfl⟩
  go_wp2_with fail
  refine wp_region_noPanic ?_
  refine wp_region_along (S := fun w' => Below w5.heap.size w5 w' ∧ ∀ b o, (w5.cell? ⟨b, o, none⟩).isSome = true → w'.cell? ⟨b, o, none⟩ = w5.cell? ⟨b, o, none⟩) ([(0, true), (1, true), (2, true), (3, true), (4, true), (5, true), (7, true), (8, true), (6, false), (9, false), (10, true), (11, true), (12, true)]) (by kernel_rfl) (by as_aux_lemma => kernel_rfl) (by kernel_rfl) (by kernel_rfl) (by as_aux_lemma => kernel_rfl) (by as_aux_lemma => kernel_rfl) (fun _ _ _ _ _ h => h) (below_kb (Below.refl _ _).drew) (fun hH => ?_)
  simp only [stepsOf, pickOp]
  iterate 8 (first | (refine along_skip (by rfl) ?_; try simp only [Act.put, List.setIfInBounds_toArray, List.set_cons_zero, List.set_cons_succ]) | (refine along_pure ?_ (by rfl) (fun w hSw => ?_) ?_; rotate_left; ((try dsimp only at hSw); go_simp; try with_reducible rfl); try simp only [Act.put, List.setIfInBounds_toArray, List.set_cons_zero, List.set_cons_succ]))
  refine along_bar (fun K hK => ?_)
  go_simp
  refine (CIn.out Z p w5.drew g ns1 P4.out (S5.out.on (Below.refl _ _).drew)).mono ?_
  rintro e w6 ⟨rfl, hbx⟩
  try go_wp2_with fail
  refine hK.out _ _ (below_kb (below_on hH.1 hbx)) (fun hH' => ?_)
  clear hK K hH
  have hH := hH'
  clear hH'
  clear hbx
  try simp only [Act.put, List.setIfInBounds_toArray, List.set_cons_zero, List.set_cons_succ]
  refine along_bar (fun K hK => ?_)
  go_simp
  refine (CHa.out _).mono ?_
  rintro e w7 ⟨rfl, hbx⟩
  try go_wp2_with fail
  refine hK.out _ _ (below_kb (below_on hH.1 hbx)) (fun hH' => ?_)
  clear hK K hH
  have hH := hH'
  clear hH'
  clear hbx
  try simp only [Act.put, List.setIfInBounds_toArray, List.set_cons_zero, List.set_cons_succ]
  iterate 3 (first | (refine along_skip (by rfl) ?_; try simp only [Act.put, List.setIfInBounds_toArray, List.set_cons_zero, List.set_cons_succ]) | (refine along_pure ?_ (by rfl) (fun w hSw => ?_) ?_; rotate_left; ((try dsimp only at hSw); go_simp; try with_reducible rfl); try simp only [Act.put, List.setIfInBounds_toArray, List.set_cons_zero, List.set_cons_succ]))
  refine along_end (NoPanic.normal ?_)
  have S7 := Lib.hid (S5.out.on hH.1)
  have X7 := Lib.hid (X5.out.on hH.1)
  clear hH S5 X5 CIn CHa p_0 p_1 h_0 h_1 h_2 h_3 h_4
  have hTT : (T != T) = false := by cases T <;> rfl
  obtain ⟨h_0, h_1, h_2, h_3, h_4⟩ : _ ∧ _ ∧ _ ∧ _ ∧ _ := ⟨X7.out.2.2.1.1 0 _ rfl, X7.out.2.2.1.1 1 _ rfl, X7.out.2.2.1.1 2 _ rfl, X7.out.2.2.1.1 3 _ rfl, X7.out.2.2.1.1 4 _ rfl⟩
  go_wp2_with fail
  refine (CB.out _).mono ?_
  rintro e w8 ⟨rfl, hb⟩
  have S8 := Lib.hid (S7.out.on hb)
  have X8 := Lib.hid (X7.out.on hb)
  clear hb CB S7 X7
  clear h_0 h_1 h_2 h_3 h_4
  obtain ⟨r_0, r_1⟩ : _ ∧ _ := ⟨X8.out.2.1.1 0 _ rfl, X8.out.2.1.1 1 _ rfl⟩
  go_wp2_with fail
  refine (CRg.out Z p w8 g ns1 P4.out S8.out).mono ?_
  rintro e w9 ⟨g2, ns2, rfl, hS, hH, hR⟩
  have S9 := Lib.hid hS
  have X9 := Lib.hid (X8.out.hold hH HZ.out)
  have R9 := Lib.hid hR
  clear hS hH hR CRg S8 X8 P4
  clear r_0 r_1
  obtain ⟨r_0, r_1⟩ : _ ∧ _ := ⟨X9.out.2.1.1 0 _ rfl, X9.out.2.1.1 1 _ rfl⟩
  obtain ⟨h_0, h_1, h_2, h_3, h_4⟩ : _ ∧ _ ∧ _ ∧ _ ∧ _ := ⟨X9.out.2.2.1.1 0 _ rfl, X9.out.2.2.1.1 1 _ rfl, X9.out.2.2.1.1 2 _ rfl, X9.out.2.2.1.1 3 _ rfl, X9.out.2.2.1.1 4 _ rfl⟩
  go_wp2_with fail
  refine (CW.out _).mono ?_
  rintro e wa ⟨rfl, hbx⟩
  have FIN := Lib.hid (bel_on' X9.out.2.2.2.1 hbx)
  clear hbx
  go_wp2
  go_ret
  exact ⟨rfl, FIN.out⟩
end Go.Proofs.Ytggcbklififcgab
/- EncFields's walk, way by way. -/
namespace Go.Proofs.Ytggcbklififcgab
open Go.RowKit
set_option linter.unusedVariables false

set_option maxRecDepth 100000 in
set_option maxHeartbeats 8000000 in
theorem ef_none {PP PR : Nat → List Nd → Prop} (f : Int) (A : Nat) (n : Int) (lo hi d s q x y xa yb : Nat)  (W : World)
    (CA : Hid (∀ w, Calls Try.prog 9 #[hv d s q x y, .int .i64 f] w fun e w' => e = .returned (.tuple #[.int .u32 (xa : Nat), .bool false]) ∧ Below w.heap.size w w'))
    (CB : Hid (∀ w, Calls Try.prog 14 #[hv d s q x y, .int .i64 f] w fun e w' => e = .returned (.tuple #[.int .u16 (yb : Nat), .bool false]) ∧ Below w.heap.size w w'))
    (CPx : Hid (∀ Z p w, Sta Z p w 262144 [bot, top] → Calls Try.prog 10 #[.pointer (some ⟨p, 0, none⟩), .int .i64 f, pv A n] w fun e w' => ∃ (g : Nat) (ns1 : List Nd), e = .returned (.tuple #[.int .i64 (g : Nat), .int .i64 1]) ∧ Sta Z p w' 262144 ns1 ∧ Hold Z w w' ∧ PP g ns1))
    (CRg : Hid (∀ Z p w g ns1, PP g ns1 → Sta Z p w 262144 ns1 → Calls Try.prog 15 #[.pointer (some ⟨p, 0, none⟩), .int .i64 f, .agg #[.int .u16 (lo : Nat), .int .u16 (hi : Nat)]] w fun e w' => ∃ (g : Nat) (ns2 : List Nd), e = .returned (.tuple #[.int .i64 (g : Nat), .int .i64 1]) ∧ Sta Z p w' 262144 ns2 ∧ Hold Z w w' ∧ PR g ns2)) :
    Calls Try.prog 3 #[.int .i64 f, pv A n, .agg #[.int .u16 (lo : Nat), .int .u16 (hi : Nat)], hv d s q x y] W fun e w' => e = .returned (.bool true) ∧ Below W.heap.size W w' := by
  have CN := Lib.hid (fun w => sNew 262144 (by omega) (by omega) w)
  have CW := Lib.hid (fun w => awake_any w)
  go_enter Try.func3, Try.ntmps3
  go_upto_region 1 with fail
  refine at_code (S := Fx W [.int .u32 (A : Nat), .int .i64 n] [.int .u16 (lo : Nat), .int .u16 (hi : Nat)] [.int .u32 (d : Nat), .int .u32 (s : Nat), .int .u8 (q : Nat), .int .u16 (x : Nat), .int .u16 (y : Nat)]) ⟨?_, ?_, ?_, bel_al (bel_al (bel_al (Below.refl _ _) _) _) _, by simp⟩ (fun W1 hW => ?_)
  · exact (Blk.new W _ [.int .u32 (A : Nat), .int .i64 n]).on (bel_al (bel_al (Below.refl _ _) _) _)
  · have k := Blk.new (W.alloc (.cells #[.int .u32 (A : Nat), .int .i64 n] 24)) 27 [.int .u16 (lo : Nat), .int .u16 (hi : Nat)]
    rw [World.size_alloc] at k
    exact k.on (bel_al (Below.refl _ _) _)
  · have k := Blk.new ((W.alloc (.cells #[.int .u32 (A : Nat), .int .i64 n] 24)).alloc (.cells #[.int .u16 (lo : Nat), .int .u16 (hi : Nat)] 27)) 29 [.int .u32 (d : Nat), .int .u32 (s : Nat), .int .u8 (q : Nat), .int .u16 (x : Nat), .int .u16 (y : Nat)]
    rw [World.size_alloc, World.size_alloc] at k
    exact k
  have X1 := Lib.hid hW
  clear hW
  go_wp2_with fail
  refine (CN.out _).mono ?_
  rintro e w2 ⟨p, rfl, hS, hb⟩
  obtain ⟨Z, hZ⟩ : ∃ Z : Nat → Prop, (fun k => k < W1.heap.size) = Z := ⟨_, rfl⟩
  rw [hZ] at hS
  have HZ : Hid (∀ k, k < W.heap.size + 3 → Z k) := Lib.hid (by rw [← hZ]; intro k hk; have := X1.out.2.2.2.2; show k < W1.heap.size; omega)
  have S2 := Lib.hid hS
  have X2 := Lib.hid (X1.out.on hb)
  clear hS hb CN hZ X1
  obtain ⟨h_0, h_1, h_2, h_3, h_4⟩ : _ ∧ _ ∧ _ ∧ _ ∧ _ := ⟨X2.out.2.2.1.1 0 _ rfl, X2.out.2.2.1.1 1 _ rfl, X2.out.2.2.1.1 2 _ rfl, X2.out.2.2.1.1 3 _ rfl, X2.out.2.2.1.1 4 _ rfl⟩
  go_wp2_with fail
  refine (CA.out _).mono ?_
  rintro e w3 ⟨rfl, hb⟩
  have S3 := Lib.hid (S2.out.on hb)
  have X3 := Lib.hid (X2.out.on hb)
  clear hb CA S2 X2
  clear h_0 h_1 h_2 h_3 h_4
  obtain ⟨p_0, p_1⟩ : _ ∧ _ := ⟨X3.out.1.1 0 _ rfl, X3.out.1.1 1 _ rfl⟩
  go_wp2_with fail
  refine (CPx.out Z p w3 S3.out).mono ?_
  rintro e w4 ⟨g, ns1, rfl, hS, hH, hP⟩
  have S4 := Lib.hid hS
  have X4 := Lib.hid (X3.out.hold hH HZ.out)
  have P4 := Lib.hid hP
  clear hS hH hP CPx S3 X3
  clear p_0 p_1
  obtain ⟨h_0, h_1, h_2, h_3, h_4⟩ : _ ∧ _ ∧ _ ∧ _ ∧ _ := ⟨X4.out.2.2.1.1 0 _ rfl, X4.out.2.2.1.1 1 _ rfl, X4.out.2.2.1.1 2 _ rfl, X4.out.2.2.1.1 3 _ rfl, X4.out.2.2.1.1 4 _ rfl⟩
  go_wp2_with fail
  refine (CB.out _).mono ?_
  rintro e w8 ⟨rfl, hb⟩
  have S8 := Lib.hid (S4.out.on hb)
  have X8 := Lib.hid (X4.out.on hb)
  clear hb CB S4 X4
  clear h_0 h_1 h_2 h_3 h_4
  obtain ⟨r_0, r_1⟩ : _ ∧ _ := ⟨X8.out.2.1.1 0 _ rfl, X8.out.2.1.1 1 _ rfl⟩
  go_wp2_with fail
  refine (CRg.out Z p w8 g ns1 P4.out S8.out).mono ?_
  rintro e w9 ⟨g2, ns2, rfl, hS, hH, hR⟩
  have S9 := Lib.hid hS
  have X9 := Lib.hid (X8.out.hold hH HZ.out)
  have R9 := Lib.hid hR
  clear hS hH hR CRg S8 X8 P4
  clear r_0 r_1
  obtain ⟨r_0, r_1⟩ : _ ∧ _ := ⟨X9.out.2.1.1 0 _ rfl, X9.out.2.1.1 1 _ rfl⟩
  obtain ⟨h_0, h_1, h_2, h_3, h_4⟩ : _ ∧ _ ∧ _ ∧ _ ∧ _ := ⟨X9.out.2.2.1.1 0 _ rfl, X9.out.2.2.1.1 1 _ rfl, X9.out.2.2.1.1 2 _ rfl, X9.out.2.2.1.1 3 _ rfl, X9.out.2.2.1.1 4 _ rfl⟩
  go_wp2_with fail
  refine (CW.out _).mono ?_
  rintro e wa ⟨rfl, hbx⟩
  have FIN := Lib.hid (bel_on' X9.out.2.2.2.1 hbx)
  clear hbx
  go_wp2
  go_ret
  exact ⟨rfl, FIN.out⟩
set_option maxRecDepth 100000 in
set_option maxHeartbeats 8000000 in
theorem ef_bounds {PP PR : Nat → List Nd → Prop} (f : Int) (A : Nat) (n : Int) (lo hi d s q x y xa yb : Nat) (hgt : (hi : Int) < (lo : Int)) (W : World)
    (CA : Hid (∀ w, Calls Try.prog 9 #[hv d s q x y, .int .i64 f] w fun e w' => e = .returned (.tuple #[.int .u32 (xa : Nat), .bool false]) ∧ Below w.heap.size w w'))
    (CB : Hid (∀ w, Calls Try.prog 14 #[hv d s q x y, .int .i64 f] w fun e w' => e = .returned (.tuple #[.int .u16 (yb : Nat), .bool true]) ∧ Below w.heap.size w w'))
    (CPx : Hid (∀ Z p w, Sta Z p w 262144 [bot, top] → Calls Try.prog 10 #[.pointer (some ⟨p, 0, none⟩), .int .i64 f, pv A n] w fun e w' => ∃ (g : Nat) (ns1 : List Nd), e = .returned (.tuple #[.int .i64 (g : Nat), .int .i64 1]) ∧ Sta Z p w' 262144 ns1 ∧ Hold Z w w' ∧ PP g ns1))
    (CRg : Hid (∀ Z p w g ns1, PP g ns1 → Sta Z p w 262144 ns1 → Calls Try.prog 15 #[.pointer (some ⟨p, 0, none⟩), .int .i64 f, .agg #[.int .u16 (lo : Nat), .int .u16 (hi : Nat)]] w fun e w' => ∃ (g : Nat) (ns2 : List Nd), e = .returned (.tuple #[.int .i64 (g : Nat), .int .i64 14]) ∧ Sta Z p w' 262144 ns2 ∧ Hold Z w w' ∧ PR g ns2)) :
    Calls Try.prog 3 #[.int .i64 f, pv A n, .agg #[.int .u16 (lo : Nat), .int .u16 (hi : Nat)], hv d s q x y] W fun e w' => e = .returned (.bool true) ∧ Below W.heap.size W w' := by
  have CN := Lib.hid (fun w => sNew 262144 (by omega) (by omega) w)
  have CW := Lib.hid (fun w => awake_any w)
  go_enter Try.func3, Try.ntmps3
  go_upto_region 1 with fail
  refine at_code (S := Fx W [.int .u32 (A : Nat), .int .i64 n] [.int .u16 (lo : Nat), .int .u16 (hi : Nat)] [.int .u32 (d : Nat), .int .u32 (s : Nat), .int .u8 (q : Nat), .int .u16 (x : Nat), .int .u16 (y : Nat)]) ⟨?_, ?_, ?_, bel_al (bel_al (bel_al (Below.refl _ _) _) _) _, by simp⟩ (fun W1 hW => ?_)
  · exact (Blk.new W _ [.int .u32 (A : Nat), .int .i64 n]).on (bel_al (bel_al (Below.refl _ _) _) _)
  · have k := Blk.new (W.alloc (.cells #[.int .u32 (A : Nat), .int .i64 n] 24)) 27 [.int .u16 (lo : Nat), .int .u16 (hi : Nat)]
    rw [World.size_alloc] at k
    exact k.on (bel_al (Below.refl _ _) _)
  · have k := Blk.new ((W.alloc (.cells #[.int .u32 (A : Nat), .int .i64 n] 24)).alloc (.cells #[.int .u16 (lo : Nat), .int .u16 (hi : Nat)] 27)) 29 [.int .u32 (d : Nat), .int .u32 (s : Nat), .int .u8 (q : Nat), .int .u16 (x : Nat), .int .u16 (y : Nat)]
    rw [World.size_alloc, World.size_alloc] at k
    exact k
  have X1 := Lib.hid hW
  clear hW
  go_wp2_with fail
  refine (CN.out _).mono ?_
  rintro e w2 ⟨p, rfl, hS, hb⟩
  obtain ⟨Z, hZ⟩ : ∃ Z : Nat → Prop, (fun k => k < W1.heap.size) = Z := ⟨_, rfl⟩
  rw [hZ] at hS
  have HZ : Hid (∀ k, k < W.heap.size + 3 → Z k) := Lib.hid (by rw [← hZ]; intro k hk; have := X1.out.2.2.2.2; show k < W1.heap.size; omega)
  have S2 := Lib.hid hS
  have X2 := Lib.hid (X1.out.on hb)
  clear hS hb CN hZ X1
  obtain ⟨h_0, h_1, h_2, h_3, h_4⟩ : _ ∧ _ ∧ _ ∧ _ ∧ _ := ⟨X2.out.2.2.1.1 0 _ rfl, X2.out.2.2.1.1 1 _ rfl, X2.out.2.2.1.1 2 _ rfl, X2.out.2.2.1.1 3 _ rfl, X2.out.2.2.1.1 4 _ rfl⟩
  go_wp2_with fail
  refine (CA.out _).mono ?_
  rintro e w3 ⟨rfl, hb⟩
  have S3 := Lib.hid (S2.out.on hb)
  have X3 := Lib.hid (X2.out.on hb)
  clear hb CA S2 X2
  clear h_0 h_1 h_2 h_3 h_4
  obtain ⟨p_0, p_1⟩ : _ ∧ _ := ⟨X3.out.1.1 0 _ rfl, X3.out.1.1 1 _ rfl⟩
  go_wp2_with fail
  refine (CPx.out Z p w3 S3.out).mono ?_
  rintro e w4 ⟨g, ns1, rfl, hS, hH, hP⟩
  have S4 := Lib.hid hS
  have X4 := Lib.hid (X3.out.hold hH HZ.out)
  have P4 := Lib.hid hP
  clear hS hH hP CPx S3 X3
  clear p_0 p_1
  obtain ⟨h_0, h_1, h_2, h_3, h_4⟩ : _ ∧ _ ∧ _ ∧ _ ∧ _ := ⟨X4.out.2.2.1.1 0 _ rfl, X4.out.2.2.1.1 1 _ rfl, X4.out.2.2.1.1 2 _ rfl, X4.out.2.2.1.1 3 _ rfl, X4.out.2.2.1.1 4 _ rfl⟩
  go_wp2_with fail
  refine (CB.out _).mono ?_
  rintro e w8 ⟨rfl, hb⟩
  have S8 := Lib.hid (S4.out.on hb)
  have X8 := Lib.hid (X4.out.on hb)
  clear hb CB S4 X4
  clear h_0 h_1 h_2 h_3 h_4
  obtain ⟨r_0, r_1⟩ : _ ∧ _ := ⟨X8.out.2.1.1 0 _ rfl, X8.out.2.1.1 1 _ rfl⟩
  go_wp2_with fail
  refine (CRg.out Z p w8 g ns1 P4.out S8.out).mono ?_
  rintro e w9 ⟨g2, ns2, rfl, hS, hH, hR⟩
  have S9 := Lib.hid hS
  have X9 := Lib.hid (X8.out.hold hH HZ.out)
  have R9 := Lib.hid hR
  clear hS hH hR CRg S8 X8 P4
  clear r_0 r_1
  obtain ⟨r_0, r_1⟩ : _ ∧ _ := ⟨X9.out.2.1.1 0 _ rfl, X9.out.2.1.1 1 _ rfl⟩
  obtain ⟨h_0, h_1, h_2, h_3, h_4⟩ : _ ∧ _ ∧ _ ∧ _ ∧ _ := ⟨X9.out.2.2.1.1 0 _ rfl, X9.out.2.2.1.1 1 _ rfl, X9.out.2.2.1.1 2 _ rfl, X9.out.2.2.1.1 3 _ rfl, X9.out.2.2.1.1 4 _ rfl⟩
  go_wp2_with fail
  refine (CW.out _).mono ?_
  rintro e wa ⟨rfl, hbx⟩
  have FIN := Lib.hid (bel_on' X9.out.2.2.2.1 hbx)
  clear hbx
  go_wp2
  go_ret
  exact ⟨rfl, FIN.out⟩
end Go.Proofs.Ytggcbklififcgab
