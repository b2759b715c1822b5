/- Whether expressions may be, and are few. -/
import Derived.Test.YtioanjpeddipmaaLL0
import Derived.LoopN
namespace Go.Proofs.Ytioanjpeddipmaa
open Go.RowKit Go.Maps Go.MapKept Go.ChangeMaps Go.WideElems Go.Joins
set_option linter.unusedVariables false

/-- A bool is told, and what true means. -/
def TellsR (Q : Prop) (w : World) (e : Ending) (w' : World) : Prop := ∃ r, e = .returned (.bool r) ∧ (r = true → Q) ∧ Below w.heap.size w w'
theorem tellsR {Q : Prop} {w : World} {e : Ending} {w' : World} {r : Bool} (h : e = .returned (.bool r)) (q : r = true → Q) (b : Below w.heap.size w w') : TellsR Q w e w' := ⟨r, h, q, b⟩
theorem tellsF {Q : Prop} {w : World} {w' : World} (b : Below w.heap.size w w') : TellsR Q w (.returned (.bool false)) w' := ⟨false, rfl, fun q => (by cases q), b⟩
theorem okL_of : ∀ (l : List Ex) (i : Nat), (∀ (j : Nat) (x : Ex), l[j]? = some x → x.Ok (i + j)) → OkL i l
  | [], i, h => trivial
  | y :: r, i, h => ⟨h 0 y rfl, okL_of r (i + 1) (fun j x hx => by have := h (j + 1) x (by simpa using hx); rw [show i + (j + 1) = i + 1 + j by omega] at this; exact this)⟩
set_option maxRecDepth 100000 in
set_option maxHeartbeats 8000000 in
theorem right_any (L : List Ex) (la : Option Addr) (lc : Nat) (w : World) (hL : Rw w la (L.flatMap Ex.cells)) (hlen : L.length ≤ maxLen) :
    Calls Try.prog 26 #[.slice la L.length lc] w (TellsR (OkL 0 L) w) := by
  obtain ⟨n, hn⟩ : ∃ n, L.length = n := ⟨_, rfl⟩
  rw [hn]
  rw [hn] at hlen
  have hnm := hlen
  have HN := Lib.hid hn
  have HL0 := Lib.hid hL
  clear hn hL hlen
  go_enter Try.func26, Try.ntmps26
  go_wp2_with fail
  go_loopw [3, 4] (fun hv iv' wr => ∃ (hd : Int) (k : Nat), hv = .int .i64 hd ∧ iv' = .int .i64 (k : Nat) ∧ k ≤ n ∧ Hid (∀ j x, j < k → L[j]? = some x → x.Ok j) ∧ Hid (Below w.heap.size w wr)) (fun _ iv' _ => n - (intOf iv').toNat)
  case atStart => exact ⟨0, 0, rfl, rfl, Nat.zero_le _, Lib.hid (fun j x hj => by omega), Lib.hid (Below.refl _ _)⟩
  case round =>
    obtain ⟨hd, k, rfl, rfl, hk, hOk, hB⟩ := hrel
    by_cases hkn : k < n
    · obtain ⟨x, hx⟩ : ∃ x, L[k]? = some x := ⟨_, List.getElem?_eq_getElem (by have := HN.out; omega)⟩
      obtain ⟨b, off, rfl⟩ := HL0.out.elemAd 5 Ex.cells_len hx
      have HX := Lib.hid hx
      obtain ⟨xk, xa, xb, xc, xv, xo⟩ := x
      have el := (HL0.out.on hB.out).elem 6 Ex.cells_len hx
      have l_0 : wr.cell? ⟨b, off + k * 6, none⟩ = some (.int .i64 xk) := el 0 rfl
      have l_1 : wr.cell? ⟨b, off + k * 6 + 1, none⟩ = some (.int .i64 xa) := el 1 rfl
      have l_2 : wr.cell? ⟨b, off + k * 6 + 2, none⟩ = some (.int .i64 xb) := el 2 rfl
      have l_3 : wr.cell? ⟨b, off + k * 6 + 3, none⟩ = some (.int .i64 xc) := el 3 rfl
      have l_4 : wr.cell? ⟨b, off + k * 6 + 4, none⟩ = some (.int .i64 xv) := el 4 rfl
      have l_5 : wr.cell? ⟨b, off + k * 6 + 5, none⟩ = some (.bool xo) := el 5 rfl
      have hwk : IntKind.i64.wrap ((k : Int) + 1) = ((k + 1 : Nat) : Int) := by rw [IntKind.wrap_i64]; unfold maxLen at hnm; omega
      clear el hx
      go_upto_region 6 with fail
      refine at_code (S := fun W' => Blk W' wr.heap.size [.int .i64 xk, .int .i64 xa, .int .i64 xb, .int .i64 xc, .int .i64 xv, .bool xo] ∧ Below wr.heap.size wr W' ∧ wr.heap.size < W'.heap.size) ⟨Blk.new _ _ _, bel_al (Below.refl _ _) _, by simp⟩ (fun W1 hW => ?_)
      obtain ⟨hX, hb, hlt⟩ := hW
      have B1 := Lib.hid hb
      obtain ⟨x_0, x_1, x_2, x_3, x_4, x_5⟩ : _ ∧ _ ∧ _ ∧ _ ∧ _ ∧ _ := ⟨hX.1 0 _ rfl, hX.1 1 _ rfl, hX.1 2 _ rfl, hX.1 3 _ rfl, hX.1 4 _ rfl, hX.1 5 _ rfl⟩
      clear l_0 l_1 l_2 l_3 l_4 l_5 hX
      go_cut [71] (fun u wx => ∃ r, u = .bool r ∧ (r = false → Ex.Ok ⟨xk, xa, xb, xc, xv, xo⟩ k) ∧ W1 = wx)
      case first =>
        clear HL0 HN HX hOk hB B1 hwk hnm
        by_cases k1 : xk < 0
        · as_aux_lemma =>
            go_wp2
            go_meet
            exact ⟨true, rfl, fun q => (by cases q), rfl⟩
        · by_cases k2 : 9 < xk
          · as_aux_lemma =>
              go_wp2
              go_meet
              exact ⟨true, rfl, fun q => (by cases q), rfl⟩
          · by_cases k3 : 3 ≤ xk
            · by_cases c1 : xa < 0
              · as_aux_lemma =>
                  go_wp2
                  go_meet
                  exact ⟨true, rfl, fun q => (by cases q), rfl⟩
              · by_cases c2 : (k : Int) ≤ xa
                · as_aux_lemma =>
                    go_wp2
                    go_meet
                    exact ⟨true, rfl, fun q => (by cases q), rfl⟩
                · by_cases c3 : xb < 0
                  · as_aux_lemma =>
                      go_wp2
                      go_meet
                      exact ⟨true, rfl, fun q => (by cases q), rfl⟩
                  · by_cases c4 : (k : Int) ≤ xb
                    · as_aux_lemma =>
                        go_wp2
                        go_meet
                        exact ⟨true, rfl, fun q => (by cases q), rfl⟩
                    · by_cases c5 : xc < 0
                      · as_aux_lemma =>
                          go_wp2
                          go_meet
                          exact ⟨true, rfl, fun q => (by cases q), rfl⟩
                      · by_cases c6 : (k : Int) ≤ xc
                        · as_aux_lemma =>
                            go_wp2
                            go_meet
                            exact ⟨true, rfl, fun q => (by cases q), rfl⟩
                        · by_cases c7 : xv < 0
                          · as_aux_lemma =>
                              go_wp2
                              go_meet
                              exact ⟨true, rfl, fun q => (by cases q), rfl⟩
                          · by_cases c8 : 104 ≤ xv
                            · as_aux_lemma =>
                                go_wp2
                                go_meet
                                exact ⟨true, rfl, fun q => (by cases q), rfl⟩
                            · have hok : Ex.Ok ⟨xk, xa, xb, xc, xv, xo⟩ k := ⟨by show 0 ≤ xk; omega, by show xk ≤ 9; omega, fun q => ⟨by show 0 ≤ xa; omega, by show xa < (k : Int); omega, by show 0 ≤ xb; omega, by show xb < (k : Int); omega, by show 0 ≤ xc; omega, by show xc < (k : Int); omega⟩, by show 0 ≤ xv; omega, by show xv < 104; omega⟩
                              have HOk := Lib.hid hok
                              clear hok
                              as_aux_lemma =>
                                go_wp2
                                go_meet
                                exact ⟨false, rfl, fun _ => HOk.out, rfl⟩
            · by_cases c7 : xv < 0
              · as_aux_lemma =>
                  go_wp2
                  go_meet
                  exact ⟨true, rfl, fun q => (by cases q), rfl⟩
              · by_cases c8 : 104 ≤ xv
                · as_aux_lemma =>
                    go_wp2
                    go_meet
                    exact ⟨true, rfl, fun q => (by cases q), rfl⟩
                · have hok : Ex.Ok ⟨xk, xa, xb, xc, xv, xo⟩ k := ⟨by show 0 ≤ xk; omega, by show xk ≤ 9; omega, fun q => by replace q : 3 ≤ xk := q; omega, by show 0 ≤ xv; omega, by show xv < 104; omega⟩
                  have HOk := Lib.hid hok
                  clear hok
                  as_aux_lemma =>
                    go_wp2
                    go_meet
                    exact ⟨false, rfl, fun _ => HOk.out, rfl⟩
      case rest =>
        obtain ⟨r, rfl, hr, rfl⟩ := hcut
        have HR := Lib.hid hr
        clear hr
        cases r with
        | true =>
          go_wp2
          go_ret
          exact tellsF (bel_on' hB.out B1.out)
        | false =>
          have hnext : Hid (∀ j x, j < k + 1 → L[j]? = some x → x.Ok j) := Lib.hid (fun j x hj hx => by
            rcases Nat.lt_or_ge j k with q | q
            · exact hOk.out j x q hx
            · have : j = k := by omega
              subst this
              rw [HX.out] at hx
              cases hx
              exact HR.out rfl)
          by_cases h8 : xk = 8
          · subst h8
            go_wp2_with fail
            refine ⟨⟨_, k + 1, rfl, ?_, by omega, hnext, Lib.hid (bel_on' hB.out B1.out)⟩, by simp [intOf] <;> omega⟩
            first | rfl | rw [hwk]
          · have h8' : (xk == 8) = false := by simp; exact h8
            go_wp2_with fail
            refine ⟨⟨_, k + 1, rfl, ?_, by omega, hnext, Lib.hid (bel_on' hB.out B1.out)⟩, by simp [intOf] <;> omega⟩
            first | rfl | rw [hwk]
    · have hkn' : k = n := by omega
      subst hkn'
      go_wp2
      go_ret
      refine tellsR rfl (fun _ => okL_of L 0 (fun j x hx => ?_)) hB.out
      rw [Nat.zero_add]
      exact hOk.out j x (by have := lt_of_get hx; have := HN.out; omega) hx
/-- What Light tells. -/
structure Lt (L : List Ex) : Prop where
  len : L.length ≤ 60
  ok : OkL 0 L
  few : ∃ B, pw B ≤ 1024 ∧ ∀ x ∈ L, x.k = 2 → B x.v.toNat = true
def intOfV : Value → Option Nat
  | .int _ z => some z.toNat
  | _ => none
theorem lt_few (L : List Ex) (vs : List Value) (hm : vs.length ≤ 10) (h : ∀ x ∈ L, x.k = 2 → Value.int .i64 x.v ∈ vs) (hok : OkL 0 L) : ∃ B, pw B ≤ 1024 ∧ ∀ x ∈ L, x.k = 2 → B x.v.toNat = true := by
  refine ⟨fun i => (vs.filterMap intOfV).contains i, ?_, fun x hx hk => ?_⟩
  · refine pw_few (l := vs.filterMap intOfV) (k := 10) (fun i hi => by simpa using hi) ?_
    exact Nat.le_trans (List.length_filterMap_le _ _) hm
  · rw [List.contains_iff_mem, List.mem_filterMap]
    exact ⟨_, h x hx hk, rfl⟩
set_option maxRecDepth 100000 in
set_option maxHeartbeats 8000000 in
theorem light_any (L : List Ex) (la : Option Addr) (lc : Nat) (w : World) (hL : Rw w la (L.flatMap Ex.cells)) (hlen : L.length ≤ maxLen) (hrng : ∀ x ∈ L, -9223372036854775808 ≤ x.v ∧ x.v ≤ 9223372036854775807) :
    Calls Try.prog 9 #[.slice la L.length lc] w (TellsR (Lt L) w) := by
  have CR := Lib.hid (fun (W : World) (hb : Below w.heap.size w W) => right_any L la lc W (hL.on hb) hlen)
  obtain ⟨n, hn⟩ : ∃ n, L.length = n := ⟨_, rfl⟩
  rw [hn] at CR ⊢
  rw [hn] at hlen
  have hnm := hlen
  have HN := Lib.hid hn
  have HL0 := Lib.hid hL
  have HRg := Lib.hid hrng
  have hmm := @run_makeMap Try.prog
  clear hn hL hlen hrng
  go_enter Try.func9, Try.ntmps9
  go_upto_region 2 with fail
  refine at_code (S := fun W' => MapB Try.prog 3 4 (fun z : Int => .int .i64 z) W' w.heap.size 0 [] ∧ Below w.heap.size w W') ⟨MapB.made w, bel_al (Below.refl _ _) _⟩ (fun W0 hW => ?_)
  have M0 := Lib.hid hW.1
  have B0 := Lib.hid hW.2
  clear hW hmm
  go_wp2_with fail
  go_loopw [9] (fun iv' wr => ∃ k : Nat, iv' = .int .i64 (k : Nat) ∧ k ≤ n ∧ ∃ ks : List Int, Hid (MapB Try.prog 3 4 (fun z : Int => .int .i64 z) wr w.heap.size k ks) ∧ Hid (∀ j x, j < k → L[j]? = some x → x.k = 2 → x.v ∈ ks) ∧ Hid (Below w.heap.size w wr)) (fun iv' _ => n - (intOf iv').toNat)
  case atStart => exact ⟨0, rfl, Nat.zero_le _, [], M0, Lib.hid (fun j x hj => by omega), B0⟩
  case round =>
    obtain ⟨k, rfl, hk, ks, hM, hKs, hB⟩ := hrel
    by_cases hkn : k < n
    · obtain ⟨x, hx⟩ : ∃ x, L[k]? = some x := ⟨_, List.getElem?_eq_getElem (by have := HN.out; omega)⟩
      obtain ⟨b, off, rfl⟩ := HL0.out.elemAd 5 Ex.cells_len hx
      have HX := Lib.hid hx
      obtain ⟨xk, xa, xb, xc, xv, xo⟩ := x
      have el := (HL0.out.on hB.out).elem 6 Ex.cells_len hx
      have l_0 : wr.cell? ⟨b, off + k * 6, none⟩ = some (.int .i64 xk) := el 0 rfl
      have l_1 : wr.cell? ⟨b, off + k * 6 + 1, none⟩ = some (.int .i64 xa) := el 1 rfl
      have l_2 : wr.cell? ⟨b, off + k * 6 + 2, none⟩ = some (.int .i64 xb) := el 2 rfl
      have l_3 : wr.cell? ⟨b, off + k * 6 + 3, none⟩ = some (.int .i64 xc) := el 3 rfl
      have l_4 : wr.cell? ⟨b, off + k * 6 + 4, none⟩ = some (.int .i64 xv) := el 4 rfl
      have l_5 : wr.cell? ⟨b, off + k * 6 + 5, none⟩ = some (.bool xo) := el 5 rfl
      have hwk : IntKind.i64.wrap ((k : Int) + 1) = ((k + 1 : Nat) : Int) := by rw [IntKind.wrap_i64]; unfold maxLen at hnm; omega
      clear el hx
      go_upto_region 5 with fail
      refine at_code (S := fun W' => Blk W' wr.heap.size [.int .i64 xk, .int .i64 xa, .int .i64 xb, .int .i64 xc, .int .i64 xv, .bool xo] ∧ Below wr.heap.size wr W' ∧ wr.heap.size < W'.heap.size) ⟨Blk.new _ _ _, bel_al (Below.refl _ _) _, by simp⟩ (fun W1 hW => ?_)
      obtain ⟨hX, hb, hlt⟩ := hW
      have B1 := Lib.hid hb
      obtain ⟨x_0, x_1, x_2, x_3, x_4, x_5⟩ : _ ∧ _ ∧ _ ∧ _ ∧ _ ∧ _ := ⟨hX.1 0 _ rfl, hX.1 1 _ rfl, hX.1 2 _ rfl, hX.1 3 _ rfl, hX.1 4 _ rfl, hX.1 5 _ rfl⟩
      clear l_0 l_1 l_2 l_3 l_4 l_5 hX
      have M1 := Lib.hid (hM.out.same (hb.block _ hM.out.lt))
      clear hb
      by_cases h2 : xk = 2
      · subst h2
        have hrg := HRg.out _ (List.mem_of_getElem? HX.out)
        simp only at hrg
        have hkey : keyOf Try.prog 3 ((fun z : Int => Value.int .i64 z) xv) = some (.int .i64 xv) := keyOf_int_mk Try.underlying3 (by rw [Lit.wf, Bool.and_eq_true, decide_eq_true_eq, decide_eq_true_eq, show IntKind.i64.min = -9223372036854775808 from rfl, show IntKind.i64.max = 9223372036854775807 from rfl]; omega)
        obtain ⟨w2, hup, hM2, hO2⟩ := mapB_store (int_keyed Try.underlying3) Try.underlying59 (fun x => plainElem_bool Try.underlying4 x) M1.out hkey true (by omega)
        have M2 := Lib.hid hM2
        have O2 := Lib.hid hO2
        clear hM2 hO2 hkey hrg hlt
        try simp only at hup
        go_wp2_with fail
        refine ⟨⟨k + 1, ?_, by omega, xv :: ks, M2, Lib.hid (fun j x hj hx hx2 => ?_), Lib.hid ?_⟩, by simp [intOf] <;> omega⟩
        · first | rfl | rw [hwk]
        · rcases Nat.lt_or_ge j k with q | q
          · exact List.mem_cons_of_mem _ (hKs.out j x q hx hx2)
          · have : j = k := by omega
            subst this
            rw [HX.out] at hx
            cases hx
            exact List.mem_cons_self ..
        · exact O2.out.below (bel_on' hB.out B1.out) (Nat.le_refl _)
      · have h2' : (xk == 2) = false := by simp; exact h2
        go_wp2_with fail
        refine ⟨⟨k + 1, ?_, by omega, ks, Lib.hid ?_, Lib.hid (fun j x hj hx hx2 => ?_), Lib.hid (bel_on' hB.out B1.out)⟩, by simp [intOf] <;> omega⟩
        · first | rfl | rw [hwk]
        · obtain ⟨es, clock, q1, q2, q3, q4⟩ := M1.out
          exact ⟨es, clock, q1, q2, by omega, q4⟩
        · rcases Nat.lt_or_ge j k with q | q
          · exact hKs.out j x q hx hx2
          · have : j = k := by omega
            subst this
            rw [HX.out] at hx
            cases hx
            exact absurd hx2 h2
    · have hkn' : k = n := by omega
      subst hkn'
      obtain ⟨m, vs, hvl, hmn, hvs, hml⟩ := mapB_len Try.underlying59 hM.out
      have HV := Lib.hid (And.intro hvl hvs)
      clear hvl hvs
      have CR' := Lib.hid (CR.out wr hB.out)
      clear CR
      by_cases h60 : k ≤ 60
      · have h60' : (k : Int) ≤ 60 := by omega
        by_cases h10 : m ≤ 10
        · have h10' : (m : Int) ≤ 10 := by omega
          go_wp2_with fail
          refine CR'.out.mono ?_
          rintro e w3 ⟨r, rfl, hr, hb⟩
          have HR := Lib.hid (And.intro hr hb)
          clear hr hb
          go_wp2
          go_ret
          refine tellsR (r := r) rfl (fun q => ⟨by rw [HN.out]; exact h60, HR.out.1 q, lt_few L vs (by rw [HV.out.1]; exact h10) (fun x hx hx2 => ?_) (HR.out.1 q)⟩) (bel_on' hB.out HR.out.2)
          obtain ⟨j, hj⟩ := List.getElem?_of_mem hx
          exact HV.out.2 _ (hKs.out j x (by have := lt_of_get hj; have := HN.out; omega) hj hx2)
        · have h10' : ¬ (m : Int) ≤ 10 := by omega
          go_wp2
          go_ret
          exact tellsF hB.out
      · have h60' : ¬ (k : Int) ≤ 60 := by omega
        go_wp2
        go_ret
        exact tellsF hB.out
end Go.Proofs.Ytioanjpeddipmaa
