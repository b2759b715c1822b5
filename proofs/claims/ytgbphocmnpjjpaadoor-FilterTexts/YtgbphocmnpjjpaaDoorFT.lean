/- FilterTexts' call answers true for any filter and any text: what is written is read as it was. -/
import Derived.Test.YtgbphocmnpjjpaaDoorF8
namespace Go.Proofs.YtgbphocmnpjjpaaDoor
open Go.RowKit
open Go.Lib (decDigits)
set_option linter.unusedVariables false

/-- A filter's text. -/
def fltT (a n b m : Nat) (p : Int) (l h u v : Nat) : ByteArray := ⟨(j5 32 (preT a n).data.toList (preT b m).data.toList (protoT p).data.toList (rngT l h).data.toList (rngT u v).data.toList).toArray⟩
theorem fltT_list (a n b m : Nat) (p : Int) (l h u v : Nat) : (fltT a n b m p l h u v).data.toList = j5 32 (preT a n).data.toList (preT b m).data.toList (protoT p).data.toList (rngT l h).data.toList (rngT u v).data.toList := by
  rw [fltT]
theorem preT_list (a n : Nat) : (preT a n).data.toList = (addrT a).data.toList ++ 47 :: decDigits n := by rw [preT]
theorem rngT_list (l h : Nat) : (rngT l h).data.toList = decDigits l ++ 45 :: decDigits h := by rw [rngT]
theorem preT_not (a n : Nat) : (32 : UInt8) ∉ (preT a n).data.toList := by
  rw [preT_list, List.mem_append, List.mem_cons, not_or, not_or]
  exact ⟨addrT_not a 32 (by decide) (by decide), by decide, dd_not n 32 (by decide)⟩
theorem rngT_not (l h : Nat) : (32 : UInt8) ∉ (rngT l h).data.toList := by
  rw [rngT_list, List.mem_append, List.mem_cons, not_or, not_or]
  exact ⟨dd_not l 32 (by decide), by decide, dd_not h 32 (by decide)⟩
theorem protoT_any : (protoT (-1)).data.toList = [97, 110, 121] := by unfold protoT; rw [if_pos rfl]
theorem protoT_nat (k : Nat) : (protoT (k : Int)).data.toList = decDigits k := by
  unfold protoT; rw [if_neg (by omega)]; rfl
theorem protoT_not {p : Int} (hp : p = -1 ∨ 0 ≤ p ∧ p ≤ 255) : (32 : UInt8) ∉ (protoT p).data.toList := by
  rcases hp with rfl | ⟨h0, -⟩
  · rw [protoT_any]; decide
  · obtain ⟨k, rfl⟩ := Int.eq_ofNat_of_zero_le h0
    rw [protoT_nat]; exact dd_not k 32 (by decide)
theorem protoL_word {p : Int} (hp : p = -1 ∨ 0 ≤ p ∧ p ≤ 255) : protoL (protoT p).data.toList = (p, 0) := by
  rcases hp with rfl | ⟨h0, h1⟩
  · rw [protoT_any]; unfold protoL; rw [if_pos rfl]
  · obtain ⟨k, rfl⟩ := Int.eq_ofNat_of_zero_le h0
    rw [protoT_nat]
    unfold protoL
    rw [if_neg (fun e => by have := (dd_dig k 97 (by rw [e]; simp)).2; exact absurd this (by decide)), nz_dec 255 k (by omega)]
theorem protoL_back {l : List UInt8} {p : Int} (h : protoL l = (p, 0)) : l = (protoT p).data.toList ∧ (p = -1 ∨ 0 ≤ p ∧ p ≤ 255) := by
  unfold protoL at h
  by_cases c : l = [97, 110, 121]
  · rw [if_pos c] at h
    obtain ⟨rfl, -⟩ := Prod.mk.inj h
    rw [protoT_any]; exact ⟨c, Or.inl rfl⟩
  · rw [if_neg c] at h
    obtain ⟨rfl, h2⟩ := Prod.mk.inj h
    obtain ⟨e, hk⟩ := nz_back 255 (nz 255 l).1 l (by rw [← h2])
    rw [protoT_nat]
    exact ⟨e, Or.inr ⟨by omega, by omega⟩⟩
theorem parseP_back {l : List UInt8} {a n : Nat} (h : parseP l = ((a, n), 0)) : l = (preT a n).data.toList ∧ a < 4294967296 ∧ n ≤ 32 ∧ rightB a n = true := by
  unfold parseP at h
  cases q : ct 47 l with
  | none => rw [q] at h; cases h
  | some xy =>
    obtain ⟨x, y⟩ := xy
    rw [q] at h
    obtain ⟨e, -⟩ := ct_some 47 l x y q
    replace h : pfx (parseA x) (nz 32 y) = ((a, n), 0) := h
    unfold pfx at h
    by_cases c1 : (parseA x).2 = 0
    · rw [if_pos c1] at h
      by_cases c2 : (nz 32 y).2 = 0
      · rw [if_pos c2] at h
        by_cases c3 : rightB (parseA x).1 (nz 32 y).1 = true
        · rw [if_pos c3] at h
          obtain ⟨h1, -⟩ := Prod.mk.inj h
          obtain ⟨h2, h3⟩ := Prod.mk.inj h1
          obtain ⟨k1, k2⟩ := parseA_back (parseA x).1 x (by rw [← c1])
          obtain ⟨k3, k4⟩ := nz_back 32 (nz 32 y).1 y (by rw [← c2])
          rw [h2] at k1 k2 c3
          rw [h3] at k3 k4 c3
          refine ⟨?_, k2, k4, c3⟩
          rw [preT_list, e, ← k1, ← k3]
        · rw [if_neg c3] at h; exact absurd (Prod.mk.inj h).2 (by omega)
      · rw [if_neg c2] at h; exact absurd (Prod.mk.inj h).2 c2
    · rw [if_neg c1] at h; exact absurd (Prod.mk.inj h).2 c1
theorem parseR_back {s : List UInt8} {l h : Nat} (hh : parseR s = ((l, h), 0)) : s = (rngT l h).data.toList ∧ l < 65536 ∧ h < 65536 := by
  unfold parseR at hh
  cases q : ct 45 s with
  | none => rw [q] at hh; cases hh
  | some xy =>
    obtain ⟨x, y⟩ := xy
    rw [q] at hh
    obtain ⟨e, -⟩ := ct_some 45 s x y q
    replace hh : rng (nz 65535 x) (nz 65535 y) = ((l, h), 0) := hh
    unfold rng at hh
    by_cases c1 : (nz 65535 x).2 = 0
    · rw [if_pos c1] at hh
      by_cases c2 : (nz 65535 y).2 = 0
      · rw [if_pos c2] at hh
        by_cases c3 : (nz 65535 y).1 < (nz 65535 x).1
        · rw [if_pos c3] at hh; exact absurd (Prod.mk.inj hh).2 (by omega)
        · rw [if_neg c3] at hh
          obtain ⟨h1, -⟩ := Prod.mk.inj hh
          obtain ⟨h2, h3⟩ := Prod.mk.inj h1
          obtain ⟨k1, k2⟩ := nz_back 65535 (nz 65535 x).1 x (by rw [← c1])
          obtain ⟨k3, k4⟩ := nz_back 65535 (nz 65535 y).1 y (by rw [← c2])
          rw [h2] at k1 k2
          rw [h3] at k3 k4
          refine ⟨?_, by omega, by omega⟩
          rw [rngT_list, e, ← k1, ← k3]
      · rw [if_neg c2] at hh; exact absurd (Prod.mk.inj hh).2 c2
    · rw [if_neg c1] at hh; exact absurd (Prod.mk.inj hh).2 c1
theorem parseF_text {a n b m : Nat} {p : Int} {l h u v : Nat} (ha : a < 4294967296) (hb : b < 4294967296) (r1 : rightB a n = true) (r2 : rightB b m = true) (hp : p = -1 ∨ 0 ≤ p ∧ p ≤ 255) (hl : l ≤ h) (hh : h < 65536) (hu : u ≤ v) (hv : v < 65536) :
    parseF (fltT a n b m p l h u v).data.toList = (⟨a, n, b, m, p, l, h, u, v⟩, 0) := by
  unfold parseF
  rw [fltT_list, sp_j5 32 _ _ _ _ _ (preT_not a n) (preT_not b m) (protoT_not hp) (rngT_not l h) (rngT_not u v)]
  show fparts _ _ _ _ _ = _
  rw [parseP_pre a n ha r1, parseP_pre b m hb r2, protoL_word hp, parseR_rng l h hl hh, parseR_rng u v hu hv]
  rfl
theorem fparts_ok {x0 x1 : (Nat × Nat) × Int} {t : Int × Int} {x3 x4 : (Nat × Nat) × Int} {f : Fl} (h : fparts x0 x1 t x3 x4 = (f, 0)) : x0 = ((f.a, f.n), 0) ∧ x1 = ((f.b, f.m), 0) ∧ t = (f.p, 0) ∧ x3 = ((f.l, f.h), 0) ∧ x4 = ((f.u, f.v), 0) := by
  obtain ⟨⟨a, n⟩, e0⟩ := x0
  obtain ⟨⟨b, m⟩, e1⟩ := x1
  obtain ⟨p, e2⟩ := t
  obtain ⟨⟨l, hh⟩, e3⟩ := x3
  obtain ⟨⟨u, v⟩, e4⟩ := x4
  unfold fparts at h
  simp only at h
  by_cases c0 : e0 = 0
  · rw [if_pos c0] at h
    by_cases c1 : e1 = 0
    · rw [if_pos c1] at h
      by_cases c2 : e2 = 0
      · rw [if_pos c2] at h
        by_cases c3 : e3 = 0
        · rw [if_pos c3] at h
          by_cases c4 : e4 = 0
          · rw [if_pos c4] at h
            subst c0 c1 c2 c3 c4
            obtain ⟨rfl, -⟩ := Prod.mk.inj h
            exact ⟨rfl, rfl, rfl, rfl, rfl⟩
          · rw [if_neg c4] at h; exact absurd (Prod.mk.inj h).2 c4
        · rw [if_neg c3] at h; exact absurd (Prod.mk.inj h).2 c3
      · rw [if_neg c2] at h; exact absurd (Prod.mk.inj h).2 c2
    · rw [if_neg c1] at h; exact absurd (Prod.mk.inj h).2 c1
  · rw [if_neg c0] at h; exact absurd (Prod.mk.inj h).2 c0
theorem parseF_back {s : List UInt8} {f : Fl} (h : parseF s = (f, 0)) : s = (fltT f.a f.n f.b f.m f.p f.l f.h f.u f.v).data.toList ∧ f.a < 4294967296 ∧ f.n ≤ 32 ∧ f.b < 4294967296 ∧ f.m ≤ 32 ∧ (f.p = -1 ∨ 0 ≤ f.p ∧ f.p ≤ 255) ∧ f.l < 65536 ∧ f.h < 65536 ∧ f.u < 65536 ∧ f.v < 65536 := by
  by_cases c : (sp 32 s).length = 5
  · obtain ⟨p0, p1, p2, p3, p4, e⟩ := five_of c
    have hj := sp_back 32 s
    unfold parseF at h
    rw [e] at h hj
    obtain ⟨h0, h1, h2, h3, h4⟩ := fparts_ok h
    obtain ⟨k0, a0, a1, -⟩ := parseP_back h0
    obtain ⟨k1, b0, b1, -⟩ := parseP_back h1
    obtain ⟨k2, c2⟩ := protoL_back h2
    obtain ⟨k3, l0, l1⟩ := parseR_back h3
    obtain ⟨k4, u0, u1⟩ := parseR_back h4
    refine ⟨?_, a0, a1, b0, b1, c2, l0, l1, u0, u1⟩
    rw [fltT_list, ← k0, ← k1, ← k2, ← k3, ← k4, ← join_j5]; exact hj.symm
  · rw [parseF_no _ c] at h; exact absurd (Prod.mk.inj h).2 (by omega)
theorem lens (t : ByteArray) : t.data.toList.length = t.size := by rw [Array.length_toList]; rfl
theorem preT_size (a n : Nat) (ha : a < 4294967296) (hn : n ≤ 32) : (preT a n).size ≤ 100 := by
  have d1 : (addrT a).size = (dd (a / 16777216)).size + (dd (a / 65536 % 256)).size + (dd (a / 256 % 256)).size + (dd (a % 256)).size + 3 := by
    unfold addrT
    rw [← lens, show (dots (dd (a / 16777216)) (dd (a / 65536 % 256)) (dd (a / 256 % 256)) (dd (a % 256))).data.toList = Lib.join ([dd (a / 16777216), dd (a / 65536 % 256), dd (a / 256 % 256), dd (a % 256)].map (·.data.toList)) [46] from rfl, join_dots_len]
  have d2 := dd_size (a / 16777216) (by omega)
  have d3 := dd_size (a / 65536 % 256) (by omega)
  have d4 := dd_size (a / 256 % 256) (by omega)
  have d5 := dd_size (a % 256) (by omega)
  have d6 := dd_len10 n (by omega)
  rw [← lens, preT_list, List.length_append, List.length_cons, lens]
  omega
theorem rngT_size (l h : Nat) (hl : l < 65536) (hh : h < 65536) : (rngT l h).size ≤ 100 := by
  have d1 := dd_len10 l hl
  have d2 := dd_len10 h hh
  rw [← lens, rngT_list, List.length_append, List.length_cons]
  omega
theorem fltT_eq (a n b m : Nat) (p : Int) (l h u v : Nat) : preT a n ++ ⟨#[32]⟩ ++ preT b m ++ ⟨#[32]⟩ ++ protoT p ++ ⟨#[32]⟩ ++ rngT l h ++ ⟨#[32]⟩ ++ rngT u v = fltT a n b m p l h u v := by
  apply ByteArray.ext
  apply Array.ext'
  rw [fltT_list]
  simp [j5, j4]
theorem fltT_size {a n b m : Nat} {p : Int} {l h u v : Nat} (ha : a < 4294967296) (hn : n ≤ 32) (hb : b < 4294967296) (hm : m ≤ 32) (hp : p = -1 ∨ 0 ≤ p ∧ p ≤ 255) (hl : l < 65536) (hh : h < 65536) (hu : u < 65536) (hv : v < 65536) : (fltT a n b m p l h u v).size ≤ 600 := by
  have d1 := preT_size a n ha hn
  have d2 := preT_size b m hb hm
  have d3 := protoT_size hp
  have d4 := rngT_size l h hl hh
  have d5 := rngT_size u v hu hv
  rw [← lens, fltT_list]
  simp only [j5, j4, List.length_append, List.length_cons, lens]
  omega
theorem fprint_any {a n b m : Nat} {p : Int} {l h u v : Nat} (ha : a < 4294967296) (hn : n ≤ 32) (hb : b < 4294967296) (hm : m ≤ 32) (hp : p = -1 ∨ 0 ≤ p ∧ p ≤ 255) (hl : l < 65536) (hh : h < 65536) (hu : u < 65536) (hv : v < 65536) (w : World) (ht : Txt w) :
    Calls Tryd.prog 43 #[fv a n b m p l h u v] w (SRet (fltT a n b m p l h u v) w) := by
  have hj : Lib.join ([preT a n, preT b m, protoT p, rngT l h, rngT u v].map (·.data.toList)) [32] = (fltT a n b m p l h u v).data.toList := by
    rw [fltT_list, ← join_j5]; rfl
  refine fprint_core a n b m p l h u v (preT a n) (preT b m) (protoT p) (rngT l h) (rngT u v) (fltT a n b m p l h u v) Txt (fun _ _ h hb => h.on hb) (fun w h => pprint_any a n ha hn w h) (fun w h => pprint_any b m hb hm w h) (fun w h => fpp_any p hp w h) (fun w h' => gprint_any l h hl hh w h') (fun w h' => gprint_any u v hu hv w h') (fun w g hc => join5g _ _ _ _ _ _ ?_ ?_ w g hc) w ht
  · rw [hj]
  · rw [hj, lens]
    have := fltT_size ha hn hb hm hp hl hh hu hv
    omega
theorem rfprint_any {a n b m : Nat} {p : Int} {l h u v : Nat} (ha : a < 4294967296) (hn : n ≤ 32) (hb : b < 4294967296) (hm : m ≤ 32) (hp : p = -1 ∨ 0 ≤ p ∧ p ≤ 255) (hl : l < 65536) (hh : h < 65536) (hu : u < 65536) (hv : v < 65536) (w : World) :
    Calls Tryd.prog 44 #[fv a n b m p l h u v] w (SRet (fltT a n b m p l h u v) w) := by
  refine rfprint_core a n b m p l h u v (preT a n) (preT b m) (protoT p) (rngT l h) (rngT u v) (fltT a n b m p l h u v) (preT_size a n ha hn) (preT_size b m hb hm) (protoT_size hp) (rngT_size l h hl hh) (rngT_size u v hu hv) (by omega)
    (fun w => rpprint_any a n ha hn w) (fun w => rpprint_any b m hb hm w) (fun h0 w => ?_) (fun e => ?_) (fun w => rgprint_any l h hl hh w) (fun w => rgprint_any u v hu hv w) (fltT_eq a n b m p l h u v) w
  · obtain ⟨k, rfl⟩ := Int.eq_ofNat_of_zero_le h0
    have c := rdig_any k (by omega) w
    unfold protoT
    rw [if_neg (by omega)]
    exact c
  · unfold protoT; rw [if_pos e]
set_option maxHeartbeats 400000 in
theorem ftexts_any (a : Nat) (n : Int) (b : Nat) (m p : Int) (l h u v : Nat) (s : ByteArray) (ha : a < 4294967296) (hb : b < 4294967296) (hl : l < 65536) (hh : h < 65536) (hu : u < 65536) (hv : v < 65536) (w : World) (ht : Txt w) :
    Calls Tryd.prog 9 #[fv a n b m p l h u v, .string s] w fun e w' => e = .returned (.bool true) ∧ Below w.heap.size w w' := by
  by_cases hs : s.size ≤ 300
  · refine ftexts_core a n b m p l h u v (parseF s.data.toList).1.a (parseF s.data.toList).1.n (parseF s.data.toList).1.b (parseF s.data.toList).1.m (parseF s.data.toList).1.p (parseF s.data.toList).1.l (parseF s.data.toList).1.h (parseF s.data.toList).1.u (parseF s.data.toList).1.v (parseF s.data.toList).2 _ s (fltT a n.toNat b m.toNat p l h u v) hs Txt (fun _ _ h hb => h.on hb)
      (fun w h => fparse_any s (by omega) w h.max) (fun w => rfparse_any s hs w) (fun e w h => ?_) (fun w => rfcheck_any a n b m p l h u v ha hb w) (fun w h => fawake_any w h.max) (fun e w ht => ?_) (fun e w ht => ?_) (fun e w => ?_) w ht
    · obtain ⟨k, h1, h2, h3, h4, h5, h6, h7, h8, h9⟩ := parseF_back (s := s.data.toList) (f := (parseF s.data.toList).1) (by rw [← e])
      have c := fprint_any h1 h2 h3 h4 h5 h6 h7 h8 h9 w h
      rw [show fltT (parseF s.data.toList).1.a (parseF s.data.toList).1.n (parseF s.data.toList).1.b (parseF s.data.toList).1.m (parseF s.data.toList).1.p (parseF s.data.toList).1.l (parseF s.data.toList).1.h (parseF s.data.toList).1.u (parseF s.data.toList).1.v = s by
        apply ByteArray.ext; apply Array.ext'; exact k.symm] at c
      exact c
    all_goals
      obtain ⟨r1, r2, hp, q1, q2⟩ := chk_right e
      have q1 := of_decide_eq_false q1
      have q2 := of_decide_eq_false q2
      have r1' := r1
      have r2' := r2
      obtain ⟨i, rfl, hi, -⟩ := right_nat r1
      obtain ⟨j, rfl, hj, -⟩ := right_nat r2
      rw [Int.toNat_natCast, Int.toNat_natCast]
    · exact fprint_any ha hi hb hj hp hl hh hu hv w ht
    · have c := fparse_any (fltT a i b j p l h u v) (by have := fltT_size ha hi hb hj hp hl hh hu hv; omega) w ht.max
      rw [parseF_text ha hb r1' r2' hp (by omega) hh (by omega) hv] at c
      exact c
    · exact rfprint_any ha hi hb hj hp hl hh hu hv w
  · have hns : (300 : Int) < (s.size : Int) := by omega
    unfold fv
    go_enter Tryd.func9, Tryd.ntmps9
    go_wp2_with fail
    refine (fawake_any _ (ht.on (cbelow_al (Below.refl _ _) _)).max).mono ?_
    rintro x w1 ⟨rfl, hb1⟩
    go_wp2
    go_ret
    exact ⟨rfl, cbelow_on (cbelow_al (Below.refl _ _) _) hb1⟩
end Go.Proofs.YtgbphocmnpjjpaaDoor
