/- Best. -/
import Derived.Test.YtgcbngephokegaaT3
import Derived.Test.YtgcbngephokegaaT5
namespace Go.Proofs.Ytgcbngephokegaa
open Go.RowKit Go.Maps Go.MapKept Go.ChangeMaps Go.WideElems Go.Joins
set_option linter.unusedVariables false
set_option linter.unusedSimpArgs false

theorem Tri.nodup {Z : Nat → Prop} {p : Nat} {pre : List Value} {w : World} {E : List Ent} (h : Tri Z p pre w E) : E.Nodup := by
  obtain ⟨a, N, -, h1, -⟩ := h
  exact h1.en
theorem rules_of {R : List Ru} : ∀ (l : List Ent), (∀ y ∈ l, ∃ r ∈ R, y = re r) → ∃ rs : List Ru, rs.map re = l ∧ ∀ r ∈ rs, r ∈ R
  | [], _ => ⟨[], rfl, fun r h => by cases h⟩
  | y :: l, h => by
    obtain ⟨r, hr, e⟩ := h y List.mem_cons_self
    obtain ⟨rs, h1, h2⟩ := rules_of l (fun z hz => h z (List.mem_cons_of_mem _ hz))
    refine ⟨r :: rs, by rw [List.map_cons, h1, e], fun s hs => ?_⟩
    rcases List.mem_cons.1 hs with rfl | q
    · exact hr
    · exact h2 s q
theorem id_inj : ∀ {R : List Ru}, (R.map Ru.id).Nodup → ∀ {x y : Ru}, x ∈ R → y ∈ R → x.id = y.id → x = y
  | [], _, x, y, hx, _, _ => by cases hx
  | r :: R, h, x, y, hx, hy, e => by
    rw [List.map_cons, List.nodup_cons] at h
    rcases List.mem_cons.1 hx with q1 | q1
    · rcases List.mem_cons.1 hy with q2 | q2
      · rw [q1, q2]
      · exact absurd (List.mem_map.2 ⟨y, q2, by rw [← e, q1]⟩) h.1
    · rcases List.mem_cons.1 hy with q2 | q2
      · exact absurd (List.mem_map.2 ⟨x, q1, by rw [e, q2]⟩) h.1
      · exact id_inj h.2 q1 q2 e
theorem minR_spec : ∀ (xs : List Ru) (x : Ru), minR x xs ∈ x :: xs ∧ ∀ y ∈ x :: xs, ¬ compR y (minR x xs) < 0
  | [], x => ⟨List.mem_cons_self, fun y hy => by
      rw [List.mem_singleton.1 hy]
      show ¬ compR x x < 0
      rw [compR_self]; omega⟩
  | y :: ys, x => by
    obtain ⟨h1, h2⟩ := minR_spec ys (stepR x y)
    have e : minR x (y :: ys) = minR (stepR x y) ys := rfl
    rw [e]
    have hs : stepR x y = x ∨ stepR x y = y := by unfold stepR; split <;> simp
    have hm := h2 _ List.mem_cons_self
    refine ⟨?_, fun z hz => ?_⟩
    · rcases List.mem_cons.1 h1 with q | q
      · rcases hs with k | k
        · rw [q, k]; exact List.mem_cons_self
        · rw [q, k]; exact List.mem_cons_of_mem _ List.mem_cons_self
      · exact List.mem_cons_of_mem _ (List.mem_cons_of_mem _ q)
    · have hz2 : z ∈ ys ∨ z = x ∨ z = y := by
        rcases List.mem_cons.1 hz with q | q
        · exact Or.inr (Or.inl q)
        · rcases List.mem_cons.1 q with q | q
          · exact Or.inr (Or.inr q)
          · exact Or.inl q
      rcases hz2 with q | q
      · exact h2 z (List.mem_cons_of_mem _ q)
      · generalize minR (stepR x y) ys = m at *
        unfold stepR at hm
        intro hlt
        rcases q with rfl | rfl
        · split at hm
          · next c => exact hm (compR_trans _ _ _ c hlt)
          · exact hm hlt
        · split at hm
          · exact hm hlt
          · next c =>
            rw [compR_lex] at hm hlt c
            omega
def bestOf : List Ru → Ru × Bool
  | [] => (ru0, false)
  | x :: xs => (minR x xs, true)
set_option maxRecDepth 100000 in
set_option maxHeartbeats 1000000 in
theorem best_any {Z : Nat → Prop} {p : Nat} {W : World} {R : List Ru} (h : Tab Z p W R) (A : Nat) (hA : A < 4294967296) (hR : R.length ≤ 100000) :
    Calls Try.prog 30 #[.pointer (some ⟨p, 0, none⟩), .int .u32 (A : Nat)] W fun e w' => (∃ rs, (∀ r, r ∈ rs ↔ r ∈ R ∧ metQ (pth A 32) (re r).1 = true) ∧ e = .returned (.tuple #[rv (bestOf rs).1, .bool (bestOf rs).2])) ∧ Below W.heap.size W w' := by
  have HH := Lib.hid h
  obtain ⟨m, E, t, hm, hp, hl, hmz⟩ := h
  have hn := t.nodup
  obtain ⟨rs, e1, e2⟩ := rules_of (R := R) (srt E (metQ (pth A 32))) (fun y hy => (hp.m y).1 (((srt_lst hn _).2 y).1 hy).1)
  have hmem : ∀ r, r ∈ rs ↔ r ∈ R ∧ metQ (pth A 32) (re r).1 = true := fun r => by
    constructor
    · intro hr
      have : re r ∈ srt E (metQ (pth A 32)) := by rw [← e1]; exact List.mem_map.2 ⟨r, hr, rfl⟩
      exact ⟨e2 r hr, (((srt_lst hn _).2 _).1 this).2⟩
    · rintro ⟨h1, h2⟩
      have : re r ∈ srt E (metQ (pth A 32)) := ((srt_lst hn _).2 _).2 ⟨(hp.m _).2 ⟨r, h1, rfl⟩, h2⟩
      rw [← e1] at this
      obtain ⟨s, hs, q⟩ := List.mem_map.1 this
      have : s = r := id_inj hp.n (e2 s hs) h1 (congrArg Prod.snd q)
      rw [← this]; exact hs
  have hlen : rs.length ≤ 100000 := by
    have q1 := srt_len hn (metQ (pth A 32))
    have q2 := congrArg List.length e1
    rw [List.length_map] at q2
    omega
  have HM := Lib.hid hmem
  have HE := Lib.hid e2
  have hE : E.length ≤ 100000 := by omega
  have HO := Lib.hid (fun w (hb : Below W.heap.size W w) => tOf (t.on hb) A hA hE)
  rw [← e1] at HO
  clear hmem e1 e2 hm hp hl hmz t hn hE
  go_enter Try.func30, Try.ntmps30
  go_upto_region 3 with fail
  refine at_code (S := fun w => Blk w W.heap.size ru0.cells ∧ Below W.heap.size W w) ⟨Blk.new W 57 ru0.cells, bel_al (Below.refl _ _) _⟩ (fun W1 h1 => ?_)
  have X1 := Lib.hid h1.1
  have B1 := Lib.hid h1.2
  clear h1
  go_wp2_with fail
  refine (HO.out W1 B1.out).mono ?_
  rintro e w2 ⟨v, rfl, hv, hb⟩
  have X2 := Lib.hid (X1.out.on hb)
  have B2 := Lib.hid (bel_on' B1.out hb)
  have V2 := Lib.hid hv
  clear hv hb X1 B1
  go_wp2_with fail
  refine (named_any (HH.out.on B2.out) rs HE.out v _ V2.out hlen).mono ?_
  rintro e w3 ⟨u, rfl, hu, hb⟩
  have X3 := Lib.hid (X2.out.on hb)
  have B3 := Lib.hid (bel_on' B2.out hb)
  have U3 := Lib.hid hu
  clear hu hb X2 B2 V2 HO HH HE
  cases rs with
  | nil =>
    have eu : u = .slice none 0 0 := U3.out.2.2 rfl
    subst eu
    obtain ⟨⟨x_0, x_1, x_2, x_3, x_4, x_5⟩, f_0, f_1, f_2, f_3, f_4, f_5⟩ := blk_ru X3.out
    have zr := zeroRule
    clear U3
    go_wp2
    have n1 : W.heap.size ≤ W.heap.size := Nat.le_refl _
    refine bodyPost_ret (v := .tuple #[rv ru0, .bool false]) (by simp [results, Try.results30, go_sem, x_0, x_1, x_2, x_3, x_4, x_5]) rfl ⟨⟨[], HM.out, rfl⟩, ?_⟩
    exact (((((B3.out.setCell n1 _).setCell n1 _).setCell n1 _).setCell n1 _).setCell n1 _).setCell n1 _
  | cons x xs =>
    have hl2 : xs.length ≤ 100000 := by simp at hlen; omega
    obtain ⟨ad, cap, eu⟩ := Row.slice U3.out
    have CM := Lib.hid (min_any w3 _ u x xs U3.out hl2)
    subst eu
    obtain ⟨n, hn⟩ : ∃ n, (x :: xs).length = n := ⟨_, rfl⟩
    have d0 : decide ((n : Int) = 0) = false := decide_eq_false (by rw [← hn]; simp; omega)
    have d1 : ((n : Int) == 0) = false := by rw [← hn]; simp; omega
    rw [hn] at CM ⊢
    clear U3 hn hlen hl2
    obtain ⟨mm, hmm⟩ : ∃ mm, minR x xs = mm := ⟨_, rfl⟩
    rw [hmm] at CM
    have HMM := Lib.hid hmm
    clear hmm
    go_wp2_with fail
    refine CM.out.mono ?_
    rintro e w4 ⟨rfl, hb⟩
    have X4 := Lib.hid (X3.out.on hb)
    have B4 := Lib.hid (bel_on' B3.out hb)
    obtain ⟨⟨x_0, x_1, x_2, x_3, x_4, x_5⟩, f_0, f_1, f_2, f_3, f_4, f_5⟩ := blk_ru X4.out
    clear hb X3 B3 CM
    go_wp2
    have n1 : W.heap.size ≤ W.heap.size := Nat.le_refl _
    refine bodyPost_ret (v := .tuple #[rv mm, .bool true]) (by simp [results, Try.results30, go_sem, x_0, x_1, x_2, x_3, x_4, x_5]) rfl ⟨⟨x :: xs, HM.out, by show _ = Ending.returned (.tuple #[rv (minR x xs), .bool true]); rw [HMM.out]⟩, ?_⟩
    exact (((((B4.out.setCell n1 _).setCell n1 _).setCell n1 _).setCell n1 _).setCell n1 _).setCell n1 _
def rA : Ru := ⟨1, 0, 167772160, 8, 0, 0⟩
def rB : Ru := ⟨2, 0, 167837696, 16, 0, 0⟩
theorem best_ab {rs : List Ru} (h : ∀ r, r ∈ rs ↔ r ∈ [rB, rA] ∧ metQ (pth 167838211 32) (re r).1 = true) : (bestOf rs).2 = true ∧ (bestOf rs).1 = rB := by
  have hB : rB ∈ rs := (h rB).2 ⟨List.mem_cons_self, by decide +kernel⟩
  cases rs with
  | nil => cases hB
  | cons x xs =>
    obtain ⟨h1, h2⟩ := minR_spec xs x
    refine ⟨rfl, ?_⟩
    show minR x xs = rB
    have h3 := ((h _).1 h1).1
    have h4 := h2 rB hB
    simp only [List.mem_cons, List.not_mem_nil, or_false] at h3
    rcases h3 with e | e
    · exact e
    · rw [e] at h4
      exact absurd (show compR rB rA < 0 by decide) h4
theorem addc {Z : Nat → Prop} {p : Nat} {W : World} {R : List Ru} (h : Tab Z p W R) (r : Ru) (hr : rightB r.a r.n = true) (ho : r.Ok) (hn : r.id ∉ R.map Ru.id) (hR : R.length ≤ 100000) (W0 : World) (hw : Hold Z W0 W) :
    Calls Try.prog 26 #[.pointer (some ⟨p, 0, none⟩), rv r] W fun e w' => e = .returned (.int .i64 0) ∧ Tab Z p w' (r :: R) ∧ Hold Z W0 w' :=
  (tab_add_new h r hr ho hn hR).mono (fun e w' q => ⟨q.1, q.2.1, hw.trans q.2.2⟩)
set_option maxRecDepth 100000 in
set_option maxHeartbeats 2000000 in
theorem tawake_core (W : World) (Q0 Q1 Q2 : World → Prop) (p : Value)
    (C0 : Hid (Calls Try.prog 23 #[] W fun e w' => e = .returned p ∧ Q0 w'))
    (C1 : Hid (∀ w, Q0 w → Calls Try.prog 26 #[p, rv rA] w fun e w' => e = .returned (.int .i64 0) ∧ Q1 w'))
    (C2 : Hid (∀ w, Q1 w → Calls Try.prog 26 #[p, rv rB] w fun e w' => e = .returned (.int .i64 0) ∧ Q2 w'))
    (C3 : Hid (∀ w, Q2 w → Calls Try.prog 30 #[p, .int .u32 167838211] w fun e w' => e = .returned (.tuple #[rv rB, .bool true]) ∧ Below W.heap.size W w')) :
    Calls Try.prog 22 #[] W fun e w' => e = .returned (.bool true) ∧ Below W.heap.size W w' := by
  unfold rA rB at *
  go_enter Try.func22, Try.ntmps22
  go_wp2_with fail
  refine C0.out.mono ?_
  rintro e w1 ⟨rfl, h1⟩
  have I1 := Lib.hid h1
  clear h1 C0
  go_wp2_with fail
  refine (C1.out w1 I1.out).mono ?_
  rintro e w2 ⟨rfl, h2⟩
  have I2 := Lib.hid h2
  clear h2 I1 C1
  go_wp2_with fail
  refine (C2.out w2 I2.out).mono ?_
  rintro e w3 ⟨rfl, h3⟩
  have I3 := Lib.hid h3
  clear h3 I2 C2
  go_wp2_with fail
  refine (C3.out w3 I3.out).mono ?_
  rintro e w4 ⟨rfl, hb⟩
  have I4 := Lib.hid hb
  clear hb I3 C3
  go_wp2
  go_ret
  exact ⟨rfl, bel_al I4.out _⟩
theorem tawake_any (W : World) : Calls Try.prog 22 #[] W fun e w' => e = .returned (.bool true) ∧ Below W.heap.size W w' := by
  let Z : Nat → Prop := fun k => k < W.heap.size
  refine tawake_core W (fun w => Tab Z W.heap.size w [] ∧ Hold Z W w) (fun w => Tab Z W.heap.size w [rA] ∧ Hold Z W w) (fun w => Tab Z W.heap.size w [rB, rA] ∧ Hold Z W w) (.pointer (some ⟨W.heap.size, 0, none⟩)) (Lib.hid ?_) (Lib.hid (fun w h => ?_)) (Lib.hid (fun w h => ?_)) (Lib.hid (fun w h => ?_))
  · refine (sNewTab W).mono ?_
    rintro e w' ⟨rfl, h1, h2⟩
    exact ⟨rfl, h1, Hold.of h2⟩
  · exact addc h.1 rA (by decide +kernel) ⟨by decide, by unfold I64; decide⟩ (by simp) (by simp) W h.2
  · exact addc h.1 rB (by decide +kernel) ⟨by decide, by unfold I64; decide⟩ (by decide) (by simp) W h.2
  · refine (best_any h.1 167838211 (by omega) (by simp)).mono ?_
    rintro e w' ⟨⟨rs, hrs, rfl⟩, hb⟩
    obtain ⟨k1, k2⟩ := best_ab hrs
    exact ⟨by rw [k1, k2], Hold.below (h.2.trans (Hold.of hb)) (Nat.le_refl _) (fun k hk => hk)⟩
end Go.Proofs.Ytgcbngephokegaa
