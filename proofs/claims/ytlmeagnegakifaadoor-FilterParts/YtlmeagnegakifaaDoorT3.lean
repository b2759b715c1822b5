/- CidrTexts' and CidrReads' calls answer true; the reads and prints of layer 3 at large. -/
import Derived.Test.YtlmeagnegakifaaDoorT2
import Derived.Test.YtlmeagnegakifaaDoorC6
import Derived.Test.YtlmeagnegakifaaDoorH25
namespace Go.Proofs.YtlmeagnegakifaaDoor
open Go.RowKit
set_option linter.unusedVariables false

theorem pfx_eq (a n : Nat × Int) : (if true = true then (if a.2 = 0 then (if n.2 = 0 then (if rightB a.1 n.1 = true then ((a.1 : Int), (n.1 : Int), (0 : Int)) else (0, 0, 13)) else (0, 0, n.2)) else (0, 0, a.2)) else ((0 : Int), (0 : Int), (6 : Int))) = (((pfx a n).1.1 : Int), ((pfx a n).1.2 : Int), (pfx a n).2) := by
  unfold pfx
  rw [if_pos rfl]
  split
  · split
    · split <;> rfl
    · rfl
  · rfl
theorem rng_eq (x y : Nat × Int) : (if true = true then (if x.2 = 0 then (if y.2 = 0 then (if (y.1 : Int) < (x.1 : Int) then (0, 0, 14) else ((x.1 : Int), (y.1 : Int), (0 : Int))) else (0, 0, y.2)) else (0, 0, x.2)) else ((0 : Int), (0 : Int), (6 : Int))) = (((rng x y).1.1 : Int), ((rng x y).1.2 : Int), (rng x y).2) := by
  unfold rng
  rw [if_pos rfl]
  split
  · split
    · by_cases h : y.1 < x.1
      · rw [if_pos h, if_pos (by omega)]; rfl
      · rw [if_neg h, if_neg (by omega)]
    · rfl
  · rfl
theorem parseA_lt (l : List UInt8) : (parseA l).1 < 4294967296 := by
  by_cases h : (parseA l).2 = 0
  · exact (parseA_back (parseA l).1 l (by rw [← h])).2
  · have key : ∀ (ps : List (List UInt8)) (a : Nat), (pgo ps a).2 = 0 ∨ (pgo ps a).1 = 0 := by
      intro ps
      induction ps with
      | nil => intro a; exact Or.inl rfl
      | cons p r ih =>
        intro a
        rw [pgo_cons]
        split
        · exact ih _
        · exact Or.inr rfl
    unfold parseA at h ⊢
    split
    · rename_i c
      rw [if_pos c] at h
      rcases key (sp 46 l) 0 with q | q
      · exact absurd q h
      · rw [q]; omega
    · exact (by omega : 0 < 4294967296)
def PRet (T : (Nat × Nat) × Int) (w : World) (z : Ending) (w' : World) : Prop := z = .returned (.tuple #[pv T.1.1 T.1.2, .int .i64 T.2]) ∧ Below w.heap.size w w'
def GRet (T : (Nat × Nat) × Int) (w : World) (z : Ending) (w' : World) : Prop := z = .returned (.tuple #[gv T.1.1 T.1.2, .int .i64 T.2]) ∧ Below w.heap.size w w'
theorem pparse_any (s : ByteArray) (hs : s.size < 4294967281) (w : World) (ht : Mxl w) : Calls Tryd.prog 28 #[.string s] w (PRet (parseP s.data.toList) w) := by
  have hsl : s.data.toList.length = s.size := by rw [Array.length_toList]; rfl
  cases q : ct 47 s.data.toList with
  | none =>
    have h := pparse_core s (cutT 47 s).1 (cutT 47 s).2.1 false 0 0 0 0 false 0 0 6 Mxl (fun _ _ h hb => h.on hb) (fun w h => by have c := ccut_any 47 s hs w h; rw [show cutT 47 s = ((cutT 47 s).1, (cutT 47 s).2.1, false) by unfold cutT; rw [q]] at c; exact c) (fun h => by cases h) (fun h => by cases h) (fun h => by cases h) rfl w ht
    unfold PRet parseP
    rw [q]
    exact h
  | some p =>
    obtain ⟨x, y⟩ := p
    have hlx := (ct_lens q).1
    have hly := (ct_lens q).2
    have h := pparse_core s (mkS x) (mkS y) true (parseA x).1 (parseA x).2 (nz 32 y).1 (nz 32 y).2 (rightB (parseA x).1 (nz 32 y).1) ((pfx (parseA x) (nz 32 y)).1.1 : Int) ((pfx (parseA x) (nz 32 y)).1.2 : Int) (pfx (parseA x) (nz 32 y)).2 Mxl (fun _ _ h hb => h.on hb)
      (fun w h => by have c := ccut_any 47 s hs w h; rw [show cutT 47 s = (mkS x, mkS y, true) by unfold cutT; rw [q]] at c; exact c)
      (fun _ w h => by have c := paddr_any (mkS x) (by rw [mkS_size]; omega) w h; rw [mkS_list] at c; exact c) (fun _ w => by have c := number_any (mkS y) 32 (by omega) (by rw [mkS_size]; unfold maxLen; omega) w; rw [mkS_list] at c; exact c) (fun _ w => cright_any _ _ (parseA_lt x) w) (pfx_eq _ _) w ht
    unfold PRet parseP
    rw [q]
    exact h
theorem rpparse_any (s : ByteArray) (hs : s.size ≤ 300) (w : World) : Calls Tryd.prog 30 #[.string s] w (PRet (parseP s.data.toList) w) := by
  have hsl : s.data.toList.length = s.size := by rw [Array.length_toList]; rfl
  cases q : ct 47 s.data.toList with
  | none =>
    have h := rpparse_core s (rcutT 47 s).1 (rcutT 47 s).2.1 false 0 0 0 0 false 0 0 6 (fun _ => True) (fun _ _ _ _ => trivial) (fun w h => by have c := rcut_any 47 s hs w; rw [show rcutT 47 s = ((rcutT 47 s).1, (rcutT 47 s).2.1, false) by unfold rcutT; rw [q]] at c; exact c) (fun h => by cases h) (fun h => by cases h) (fun h => by cases h) rfl w trivial
    unfold PRet parseP
    rw [q]
    exact h
  | some p =>
    obtain ⟨x, y⟩ := p
    have hlx := (ct_lens q).1
    have hly := (ct_lens q).2
    have h := rpparse_core s (mkS x) (mkS y) true (parseA x).1 (parseA x).2 (nz 32 y).1 (nz 32 y).2 (rightB (parseA x).1 (nz 32 y).1) ((pfx (parseA x) (nz 32 y)).1.1 : Int) ((pfx (parseA x) (nz 32 y)).1.2 : Int) (pfx (parseA x) (nz 32 y)).2 (fun _ => True) (fun _ _ _ _ => trivial)
      (fun w h => by have c := rcut_any 47 s hs w; rw [show rcutT 47 s = (mkS x, mkS y, true) by unfold rcutT; rw [q]] at c; exact c)
      (fun _ w h => by have c := rpaddr_any (mkS x) (by rw [mkS_size]; omega) w; rw [mkS_list] at c; exact c) (fun _ w => by have c := rnum_any (mkS y) 32 (by omega) (by rw [mkS_size]; unfold maxLen; omega) w; rw [mkS_list] at c; refine c.mono ?_; rintro e w' ⟨rfl, rfl⟩; exact ⟨rfl, Below.refl _ _⟩) (fun _ w => rright_any _ _ (parseA_lt x) w) (pfx_eq _ _) w trivial
    unfold PRet parseP
    rw [q]
    exact h
theorem gparse_any (s : ByteArray) (hs : s.size < 4294967281) (w : World) (ht : Mxl w) : Calls Tryd.prog 23 #[.string s] w (GRet (parseR s.data.toList) w) := by
  have hsl : s.data.toList.length = s.size := by rw [Array.length_toList]; rfl
  cases q : ct 45 s.data.toList with
  | none =>
    have h := gparse_core s (cutT 45 s).1 (cutT 45 s).2.1 false 0 0 0 0 0 0 6 (by omega) (by omega) Mxl (fun _ _ h hb => h.on hb) (fun w h => by have c := ccut_any 45 s hs w h; rw [show cutT 45 s = ((cutT 45 s).1, (cutT 45 s).2.1, false) by unfold cutT; rw [q]] at c; exact c) (fun h => by cases h) (fun h => by cases h) rfl w ht
    unfold GRet parseR
    rw [q]
    exact h
  | some p =>
    obtain ⟨x, y⟩ := p
    have hlx := (ct_lens q).1
    have hly := (ct_lens q).2
    have hx := (nz_le 65535 x).1
    have hy := (nz_le 65535 y).1
    have h := gparse_core s (mkS x) (mkS y) true (nz 65535 x).1 (nz 65535 x).2 (nz 65535 y).1 (nz 65535 y).2 ((rng (nz 65535 x) (nz 65535 y)).1.1 : Int) ((rng (nz 65535 x) (nz 65535 y)).1.2 : Int) (rng (nz 65535 x) (nz 65535 y)).2 (by omega) (by omega) Mxl (fun _ _ h hb => h.on hb)
      (fun w h => by have c := ccut_any 45 s hs w h; rw [show cutT 45 s = (mkS x, mkS y, true) by unfold cutT; rw [q]] at c; exact c)
      (fun _ w => by have c := number_any (mkS x) 65535 (by omega) (by rw [mkS_size]; unfold maxLen; omega) w; rw [mkS_list] at c; exact c) (fun _ w => by have c := number_any (mkS y) 65535 (by omega) (by rw [mkS_size]; unfold maxLen; omega) w; rw [mkS_list] at c; exact c) (rng_eq _ _) w ht
    unfold GRet parseR
    rw [q]
    exact h
theorem rgparse_any (s : ByteArray) (hs : s.size ≤ 300) (w : World) : Calls Tryd.prog 31 #[.string s] w (GRet (parseR s.data.toList) w) := by
  have hsl : s.data.toList.length = s.size := by rw [Array.length_toList]; rfl
  cases q : ct 45 s.data.toList with
  | none =>
    have h := rgparse_core s (rcutT 45 s).1 (rcutT 45 s).2.1 false 0 0 0 0 0 0 6 (by omega) (by omega) (fun _ => True) (fun _ _ _ _ => trivial) (fun w h => by have c := rcut_any 45 s hs w; rw [show rcutT 45 s = ((rcutT 45 s).1, (rcutT 45 s).2.1, false) by unfold rcutT; rw [q]] at c; exact c) (fun h => by cases h) (fun h => by cases h) rfl w trivial
    unfold GRet parseR
    rw [q]
    exact h
  | some p =>
    obtain ⟨x, y⟩ := p
    have hlx := (ct_lens q).1
    have hly := (ct_lens q).2
    have hx := (nz_le 65535 x).1
    have hy := (nz_le 65535 y).1
    have h := rgparse_core s (mkS x) (mkS y) true (nz 65535 x).1 (nz 65535 x).2 (nz 65535 y).1 (nz 65535 y).2 ((rng (nz 65535 x) (nz 65535 y)).1.1 : Int) ((rng (nz 65535 x) (nz 65535 y)).1.2 : Int) (rng (nz 65535 x) (nz 65535 y)).2 (by omega) (by omega) (fun _ => True) (fun _ _ _ _ => trivial)
      (fun w h => by have c := rcut_any 45 s hs w; rw [show rcutT 45 s = (mkS x, mkS y, true) by unfold rcutT; rw [q]] at c; exact c)
      (fun _ w => by have c := rnum_any (mkS x) 65535 (by omega) (by rw [mkS_size]; unfold maxLen; omega) w; rw [mkS_list] at c; refine c.mono ?_; rintro e w' ⟨rfl, rfl⟩; exact ⟨rfl, Below.refl _ _⟩) (fun _ w => by have c := rnum_any (mkS y) 65535 (by omega) (by rw [mkS_size]; unfold maxLen; omega) w; rw [mkS_list] at c; refine c.mono ?_; rintro e w' ⟨rfl, rfl⟩; exact ⟨rfl, Below.refl _ _⟩) (rng_eq _ _) w trivial
    unfold GRet parseR
    rw [q]
    exact h
theorem preT_eq (a n : Nat) : addrT a ++ ⟨#[47]⟩ ++ dd n = preT a n := by
  apply ByteArray.ext
  apply Array.ext'
  simp [preT, dd]
theorem rngT_eq (l h : Nat) : dd l ++ ⟨#[45]⟩ ++ dd h = rngT l h := by
  apply ByteArray.ext
  apply Array.ext'
  simp [rngT, dd]
theorem pprint_any (a n : Nat) (ha : a < 4294967296) (hn : n ≤ 32) (w : World) (ht : Txt w) : Calls Tryd.prog 27 #[pv a n] w (SRet (preT a n) w) :=
  pprint_core a n (by omega) (by omega) (addrT a) (dd n) (preT a n) (addrT_size a ha) (Nat.le_trans (dd_size n (by omega)) (by omega)) Txt (fun _ _ h hb => h.on hb) (fun w h => addr_any a ha w h) (fun w h => itoa_any n (by omega) w h) (preT_eq a n) w ht
theorem rpprint_any (a n : Nat) (ha : a < 4294967296) (hn : n ≤ 32) (w : World) : Calls Tryd.prog 29 #[pv a n] w (SRet (preT a n) w) :=
  rpprint_core a n (by omega) (by omega) (addrT a) (dd n) (preT a n) (addrT_size a ha) (Nat.le_trans (dd_size n (by omega)) (by omega)) (fun _ => True) (fun _ _ _ _ => trivial) (fun w _ => raddr_any a ha w) (fun w _ => rdig_any n (by omega) w) (preT_eq a n) w trivial
theorem gprint_any (l h : Nat) (hl : l < 65536) (hh : h < 65536) (w : World) (ht : Txt w) : Calls Tryd.prog 22 #[gv l h] w (SRet (rngT l h) w) :=
  gprint_core l h (by omega) (by omega) (dd l) (dd h) (rngT l h) (Nat.le_trans (dd_size l (by omega)) (by omega)) (Nat.le_trans (dd_size h (by omega)) (by omega)) Txt (fun _ _ h hb => h.on hb) (fun w h => itoa_any l (by omega) w h) (fun w q => itoa_any h (by omega) w q) (rngT_eq l h) w ht
theorem rgprint_any (l h : Nat) (hl : l < 65536) (hh : h < 65536) (w : World) : Calls Tryd.prog 24 #[gv l h] w (SRet (rngT l h) w) :=
  rgprint_core l h (by omega) (by omega) (dd l) (dd h) (rngT l h) (Nat.le_trans (dd_size l (by omega)) (by omega)) (Nat.le_trans (dd_size h (by omega)) (by omega)) (fun _ => True) (fun _ _ _ _ => trivial) (fun w _ => rdig_any l (by omega) w) (fun w _ => rdig_any h (by omega) w) (rngT_eq l h) w trivial
set_option maxRecDepth 100000 in
set_option maxHeartbeats 4000000 in
theorem ctexts_core (a n l h : Int) (R : Bool) (S G : ByteArray) (P : World → Prop) (HP : Hid (∀ W w, P W → Below W.heap.size W w → P w))
    (GP : Hid (∀ w, P w → Calls Tryd.prog 22 #[gv l h] w (SRet G w)))
    (RG : Hid (∀ w, Calls Tryd.prog 24 #[gv l h] w (SRet G w)))
    (GR : Hid (l ≤ h → ∀ w, P w → Calls Tryd.prog 23 #[.string G] w fun z w' => z = .returned (.tuple #[gv l h, .int .i64 0]) ∧ Below w.heap.size w w'))
    (RR : Hid (∀ w, Calls Tryd.prog 25 #[pv a n] w fun z w' => z = .returned (.bool R) ∧ Below w.heap.size w w'))
    (PP : Hid (R = true → ∀ w, P w → Calls Tryd.prog 27 #[pv a n] w (SRet S w)))
    (RP : Hid (R = true → ∀ w, Calls Tryd.prog 29 #[pv a n] w (SRet S w)))
    (PR : Hid (R = true → ∀ w, P w → Calls Tryd.prog 28 #[.string S] w fun z w' => z = .returned (.tuple #[pv a n, .int .i64 0]) ∧ Below w.heap.size w w'))
    (AW : Hid (∀ w, P w → Calls Tryd.prog 26 #[] w fun e w' => e = .returned (.bool true) ∧ Below w.heap.size w w'))
    (w : World) (hw0 : P w) :
    Calls Tryd.prog 5 #[pv a n, gv l h] w fun e w' => e = .returned (.bool true) ∧ Below w.heap.size w w' := by
  unfold pv gv at *
  obtain ⟨W0, hW0⟩ : ∃ W0, (w.alloc (Obj.cells #[.int .u32 a, .int .i64 n] 45)).alloc (Obj.cells #[.int .u16 l, .int .u16 h] 47) = W0 := ⟨_, rfl⟩
  have HBa := Lib.hid (show Below w.heap.size w W0 by rw [← hW0]; exact below_al (below_al (Below.refl _ _) _) _)
  have HPa := Lib.hid (show Pr .u32 .i64 W0 w.heap.size a n by rw [← hW0]; exact (Pr.new _ _ _ _ _ _).on (below_al (Below.refl _ _) _))
  have HGa := Lib.hid (show Pr .u16 .u16 W0 (w.heap.size + 1) l h by rw [← hW0]; have q := Pr.new .u16 .u16 (w.alloc (Obj.cells #[.int .u32 a, .int .i64 n] 45)) 47 l h; rw [World.size_alloc] at q; exact q)
  have hPa := Lib.hid (HP.out _ _ hw0 HBa.out)
  clear hw0
  go_enter Tryd.func5, Tryd.ntmps5
  go_upto_region 1 with fail
  clear hW0
  obtain ⟨⟨zl, zh⟩, -, -⟩ := HGa.out
  by_cases q : l ≤ h
  · have q' : decide (l ≤ h) = true := decide_eq_true q
    go_wp2_with fail
    refine (GP.out _ hPa.out).mono ?_
    rintro z w1 ⟨rfl, hb⟩
    have HBb := Lib.hid (below_on HBa.out hb)
    have HPb := Lib.hid (HPa.out.on hb)
    have HGb := Lib.hid (HGa.out.on hb)
    have hPb := Lib.hid (HP.out _ _ hPa.out hb)
    clear hb HBa HPa HGa hPa zl zh
    go_wp2_with fail
    refine (GR.out q _ hPb.out).mono ?_
    rintro z w2 ⟨rfl, hb⟩
    have HBc := Lib.hid (below_on HBb.out hb)
    have HPc := Lib.hid (HPb.out.on hb)
    have HGc := Lib.hid (HGb.out.on hb)
    have hPc := Lib.hid (HP.out _ _ hPb.out hb)
    clear hb HBb HPb HGb hPb
    go_upto_region 4 with fail
    obtain ⟨V, hV⟩ : ∃ V, w2.alloc (Obj.cells #[.int .u16 l, .int .u16 h] 47) = V := ⟨_, rfl⟩
    rw [hV]
    have hb : Below w2.heap.size w2 V := by rw [← hV]; exact below_al (Below.refl _ _) _
    have HBd := Lib.hid (below_on HBc.out hb)
    have HPd := Lib.hid (HPc.out.on hb)
    have HGd := Lib.hid (HGc.out.on hb)
    have HVd := Lib.hid (show Pr .u16 .u16 V w2.heap.size l h by rw [← hV]; exact Pr.new _ _ _ _ _ _)
    have hPd := Lib.hid (HP.out _ _ hPc.out hb)
    clear hb hV HBc HPc HGc hPc
    obtain ⟨⟨zl, zh⟩, -, -⟩ := HGd.out
    go_wp2_with fail
    refine (RG.out _).mono ?_
    rintro z w3 ⟨rfl, hb⟩
    have HBa := Lib.hid (below_on HBd.out hb)
    have HPa := Lib.hid (HPd.out.on hb)
    have HGe := HGd.out.on hb
    have HVe := HVd.out.on hb
    have hPa := Lib.hid (HP.out _ _ hPd.out hb)
    clear hb HBd HPd HGd HVd hPd zl zh
    obtain ⟨⟨zl, zh⟩, -, -⟩ := HGe
    obtain ⟨⟨yl, yh⟩, -, -⟩ := HVe
    obtain ⟨⟨za, zn⟩, -, -⟩ := HPa.out
    go_wp2_with fail
    refine (RR.out _).mono ?_
    rintro z v1 ⟨rfl, hb⟩
    have HBb := Lib.hid (below_on HBa.out hb)
    have HPb := Lib.hid (HPa.out.on hb)
    have hPb := Lib.hid (HP.out _ _ hPa.out hb)
    clear hb HBa HPa hPa za zn
    cases R with
    | false =>
      go_wp2_with fail
      refine (AW.out _ hPb.out).mono ?_
      rintro z v2 ⟨rfl, hb⟩
      have HBc := Lib.hid (below_on HBb.out hb)
      clear hb
      go_wp2
      go_ret
      exact ⟨rfl, HBc.out⟩
    | true =>
      obtain ⟨⟨za, zn⟩, -, -⟩ := HPb.out
      go_wp2_with fail
      refine (PP.out (by trivial) _ hPb.out).mono ?_
      rintro z v2 ⟨rfl, hb⟩
      have HBc := Lib.hid (below_on HBb.out hb)
      have HPc := Lib.hid (HPb.out.on hb)
      have hPc := Lib.hid (HP.out _ _ hPb.out hb)
      clear hb HBb HPb hPb za zn PP
      go_wp2_with fail
      refine (PR.out (by trivial) _ hPc.out).mono ?_
      rintro z v3 ⟨rfl, hb⟩
      have HBd := Lib.hid (below_on HBc.out hb)
      have HPd := Lib.hid (HPc.out.on hb)
      have hPd := Lib.hid (HP.out _ _ hPc.out hb)
      clear hb HBc HPc hPc PR
      go_upto_region 10 with fail
      obtain ⟨V, hV⟩ : ∃ V, v3.alloc (Obj.cells #[.int .u32 a, .int .i64 n] 45) = V := ⟨_, rfl⟩
      rw [hV]
      have hb : Below v3.heap.size v3 V := by rw [← hV]; exact below_al (Below.refl _ _) _
      have HBe := Lib.hid (below_on HBd.out hb)
      have HPe := Lib.hid (HPd.out.on hb)
      have HQe := Lib.hid (show Pr .u32 .i64 V v3.heap.size a n by rw [← hV]; exact Pr.new _ _ _ _ _ _)
      have hPe := Lib.hid (HP.out _ _ hPd.out hb)
      clear hb hV HBd HPd hPd
      go_wp2_with fail
      refine (AW.out _ hPe.out).mono ?_
      rintro z v4 ⟨rfl, hb⟩
      have HBf := Lib.hid (below_on HBe.out hb)
      have HPf := Lib.hid (HPe.out.on hb)
      have HQf := Lib.hid (HQe.out.on hb)
      clear hb HBe HPe hPe HQe
      obtain ⟨⟨za, zn⟩, -, -⟩ := HPf.out
      go_wp2_with fail
      refine (RP.out (by trivial) _).mono ?_
      rintro z v5 ⟨rfl, hb⟩
      have HBg := Lib.hid (below_on HBf.out hb)
      have HPg := HPf.out.on hb
      have HQg := HQf.out.on hb
      clear hb HBf HPf HQf za zn
      obtain ⟨⟨za, zn⟩, -, -⟩ := HPg
      obtain ⟨⟨ya, yn⟩, -, -⟩ := HQg
      go_wp2
      go_ret
      exact ⟨rfl, HBg.out⟩
  · have q' : decide (l ≤ h) = false := decide_eq_false q
    obtain ⟨⟨za, zn⟩, -, -⟩ := HPa.out
    go_wp2_with fail
    refine (RR.out _).mono ?_
    rintro z v1 ⟨rfl, hb⟩
    have HBb := Lib.hid (below_on HBa.out hb)
    have HPb := Lib.hid (HPa.out.on hb)
    have hPb := Lib.hid (HP.out _ _ hPa.out hb)
    clear hb HBa HPa hPa za zn
    cases R with
    | false =>
      go_wp2_with fail
      refine (AW.out _ hPb.out).mono ?_
      rintro z v2 ⟨rfl, hb⟩
      have HBc := Lib.hid (below_on HBb.out hb)
      clear hb
      go_wp2
      go_ret
      exact ⟨rfl, HBc.out⟩
    | true =>
      obtain ⟨⟨za, zn⟩, -, -⟩ := HPb.out
      go_wp2_with fail
      refine (PP.out (by trivial) _ hPb.out).mono ?_
      rintro z v2 ⟨rfl, hb⟩
      have HBc := Lib.hid (below_on HBb.out hb)
      have HPc := Lib.hid (HPb.out.on hb)
      have hPc := Lib.hid (HP.out _ _ hPb.out hb)
      clear hb HBb HPb hPb za zn PP
      go_wp2_with fail
      refine (PR.out (by trivial) _ hPc.out).mono ?_
      rintro z v3 ⟨rfl, hb⟩
      have HBd := Lib.hid (below_on HBc.out hb)
      have HPd := Lib.hid (HPc.out.on hb)
      have hPd := Lib.hid (HP.out _ _ hPc.out hb)
      clear hb HBc HPc hPc PR
      go_upto_region 10 with fail
      obtain ⟨V, hV⟩ : ∃ V, v3.alloc (Obj.cells #[.int .u32 a, .int .i64 n] 45) = V := ⟨_, rfl⟩
      rw [hV]
      have hb : Below v3.heap.size v3 V := by rw [← hV]; exact below_al (Below.refl _ _) _
      have HBe := Lib.hid (below_on HBd.out hb)
      have HPe := Lib.hid (HPd.out.on hb)
      have HQe := Lib.hid (show Pr .u32 .i64 V v3.heap.size a n by rw [← hV]; exact Pr.new _ _ _ _ _ _)
      have hPe := Lib.hid (HP.out _ _ hPd.out hb)
      clear hb hV HBd HPd hPd
      go_wp2_with fail
      refine (AW.out _ hPe.out).mono ?_
      rintro z v4 ⟨rfl, hb⟩
      have HBf := Lib.hid (below_on HBe.out hb)
      have HPf := Lib.hid (HPe.out.on hb)
      have HQf := Lib.hid (HQe.out.on hb)
      clear hb HBe HPe hPe HQe
      obtain ⟨⟨za, zn⟩, -, -⟩ := HPf.out
      go_wp2_with fail
      refine (RP.out (by trivial) _).mono ?_
      rintro z v5 ⟨rfl, hb⟩
      have HBg := Lib.hid (below_on HBf.out hb)
      have HPg := HPf.out.on hb
      have HQg := HQf.out.on hb
      clear hb HBf HPf HQf za zn
      obtain ⟨⟨za, zn⟩, -, -⟩ := HPg
      obtain ⟨⟨ya, yn⟩, -, -⟩ := HQg
      go_wp2
      go_ret
      exact ⟨rfl, HBg.out⟩
theorem txtdb_on {W w : World} (h : Txt W ∧ DbTab W) (hb : Below W.heap.size W w) : Txt w ∧ DbTab w := ⟨h.1.on hb, h.2.on hb⟩
theorem ctexts_any (a : Nat) (n : Int) (l h : Nat) (ha : a < 4294967296) (hl : l < 65536) (hh : h < 65536) (w : World) (ht : Txt w ∧ DbTab w) :
    Calls Tryd.prog 5 #[pv a n, gv l h] w fun e w' => e = .returned (.bool true) ∧ Below w.heap.size w w' := by
  refine ctexts_core a n l h (rightB a n) (preT a n.toNat) (rngT l h) (fun w => Txt w ∧ DbTab w) (fun _ _ h hb => txtdb_on h hb) (fun w q => gprint_any l h hl hh w q.1) (fun w => rgprint_any l h hl hh w) (fun q w p => ?_) (fun w => rright_any a n ha w) (fun q w p => ?_) (fun q w => ?_) (fun q w p => ?_) (fun w p => cawake_any w p.2) w ht
  · have hz : (rngT l h).size < 4294967281 := by
      have e : (rngT l h).size = (Lib.decDigits l ++ 45 :: Lib.decDigits h).length := mkS_size _
      have d1 := dd_len10 l hl
      have d2 := dd_len10 h hh
      rw [e, List.length_append, List.length_cons]; omega
    have c := gparse_any (rngT l h) hz w p.1.max
    rw [parseR_rng l h (by omega) hh] at c
    exact c
  all_goals
    obtain ⟨n0, n1, -⟩ := of_decide_eq_true q
    obtain ⟨k, rfl⟩ := Int.eq_ofNat_of_zero_le n0
  · exact pprint_any a k ha (by omega) w p.1
  · exact rpprint_any a k ha (by omega) w
  · have hz : (preT a k).size < 4294967281 := by
      have e : (preT a k).size = ((addrT a).data.toList ++ 47 :: Lib.decDigits k).length := mkS_size _
      have d1 := addrT_size a ha
      have d2 := dd_len10 k (by omega)
      have d3 : (addrT a).data.toList.length = (addrT a).size := by rw [Array.length_toList]; rfl
      rw [e, List.length_append, List.length_cons]; omega
    have c := pparse_any (preT a k) hz w p.1.max
    rw [parseP_pre a k ha q] at c
    exact c
set_option maxRecDepth 100000 in
set_option maxHeartbeats 4000000 in
theorem creads_core (s : ByteArray) (A B E C D F : Int) (hs : s.size ≤ 200) (P : World → Prop) (HP : Hid (∀ W w, P W → Below W.heap.size W w → P w))
    (PP : Hid (∀ w, P w → Calls Tryd.prog 28 #[.string s] w fun z w' => z = .returned (.tuple #[pv A B, .int .i64 E]) ∧ Below w.heap.size w w'))
    (RP : Hid (∀ w, Calls Tryd.prog 30 #[.string s] w fun z w' => z = .returned (.tuple #[pv A B, .int .i64 E]) ∧ Below w.heap.size w w'))
    (GP : Hid (∀ w, P w → Calls Tryd.prog 23 #[.string s] w fun z w' => z = .returned (.tuple #[gv C D, .int .i64 F]) ∧ Below w.heap.size w w'))
    (RG : Hid (∀ w, Calls Tryd.prog 31 #[.string s] w fun z w' => z = .returned (.tuple #[gv C D, .int .i64 F]) ∧ Below w.heap.size w w'))
    (AW : Hid (∀ w, P w → Calls Tryd.prog 26 #[] w fun e w' => e = .returned (.bool true) ∧ Below w.heap.size w w'))
    (w : World) (hw0 : P w) :
    Calls Tryd.prog 6 #[.string s] w fun e w' => e = .returned (.bool true) ∧ Below w.heap.size w w' := by
  unfold pv gv at *
  have hP := Lib.hid hw0
  have HB := Lib.hid (Below.refl w.heap.size w)
  clear hw0
  have hns : ¬ (200 : Int) < (s.size : Int) := by omega
  go_enter Tryd.func6, Tryd.ntmps6
  go_wp2_with fail
  refine (PP.out _ hP.out).mono ?_
  rintro z w1 ⟨rfl, hb⟩
  have HBn := Lib.hid (below_on HB.out hb)
  have hPn := Lib.hid (HP.out _ _ hP.out hb)
  clear hb HB hP 
  go_upto_region 4 with fail
  obtain ⟨V1, hV⟩ : ∃ V, w1.alloc (Obj.cells #[.int .u32 A, .int .i64 B] 45) = V := ⟨_, rfl⟩
  rw [hV]
  have hb : Below w1.heap.size w1 V1 := by rw [← hV]; exact below_al (Below.refl _ _) _
  have HB := Lib.hid (below_on HBn.out hb)
  have hP := Lib.hid (HP.out _ _ hPn.out hb)
  have M1 := Lib.hid (show Pr .u32 .i64 V1 w1.heap.size A B by rw [← hV]; exact Pr.new _ _ _ _ _ _)
  clear hb hV HBn hPn 
  go_wp2_with fail
  refine (RP.out _).mono ?_
  rintro z w2 ⟨rfl, hb⟩
  have HBn := Lib.hid (below_on HB.out hb)
  have hPn := Lib.hid (HP.out _ _ hP.out hb)
  have N1 := Lib.hid (M1.out.on hb)
  clear hb HB hP M1
  go_upto_region 5 with fail
  obtain ⟨V2, hV⟩ : ∃ V, w2.alloc (Obj.cells #[.int .u32 A, .int .i64 B] 45) = V := ⟨_, rfl⟩
  rw [hV]
  have hb : Below w2.heap.size w2 V2 := by rw [← hV]; exact below_al (Below.refl _ _) _
  have HB := Lib.hid (below_on HBn.out hb)
  have hP := Lib.hid (HP.out _ _ hPn.out hb)
  have M1 := Lib.hid (N1.out.on hb)
  have M2 := Lib.hid (show Pr .u32 .i64 V2 w2.heap.size A B by rw [← hV]; exact Pr.new _ _ _ _ _ _)
  clear hb hV HBn hPn N1
  go_wp2_with fail
  refine (GP.out _ hP.out).mono ?_
  rintro z w3 ⟨rfl, hb⟩
  have HBn := Lib.hid (below_on HB.out hb)
  have hPn := Lib.hid (HP.out _ _ hP.out hb)
  have N1 := Lib.hid (M1.out.on hb)
  have N2 := Lib.hid (M2.out.on hb)
  clear hb HB hP M1 M2
  go_upto_region 6 with fail
  obtain ⟨V3, hV⟩ : ∃ V, w3.alloc (Obj.cells #[.int .u16 C, .int .u16 D] 47) = V := ⟨_, rfl⟩
  rw [hV]
  have hb : Below w3.heap.size w3 V3 := by rw [← hV]; exact below_al (Below.refl _ _) _
  have HB := Lib.hid (below_on HBn.out hb)
  have hP := Lib.hid (HP.out _ _ hPn.out hb)
  have M1 := Lib.hid (N1.out.on hb)
  have M2 := Lib.hid (N2.out.on hb)
  have M3 := Lib.hid (show Pr .u16 .u16 V3 w3.heap.size C D by rw [← hV]; exact Pr.new _ _ _ _ _ _)
  clear hb hV HBn hPn N1 N2
  go_wp2_with fail
  refine (RG.out _).mono ?_
  rintro z w4 ⟨rfl, hb⟩
  have HBn := Lib.hid (below_on HB.out hb)
  have hPn := Lib.hid (HP.out _ _ hP.out hb)
  have N1 := Lib.hid (M1.out.on hb)
  have N2 := Lib.hid (M2.out.on hb)
  have N3 := Lib.hid (M3.out.on hb)
  clear hb HB hP M1 M2 M3
  go_upto_region 7 with fail
  obtain ⟨V4, hV⟩ : ∃ V, w4.alloc (Obj.cells #[.int .u16 C, .int .u16 D] 47) = V := ⟨_, rfl⟩
  rw [hV]
  have hb : Below w4.heap.size w4 V4 := by rw [← hV]; exact below_al (Below.refl _ _) _
  have HB := Lib.hid (below_on HBn.out hb)
  have hP := Lib.hid (HP.out _ _ hPn.out hb)
  have M1 := Lib.hid (N1.out.on hb)
  have M2 := Lib.hid (N2.out.on hb)
  have M3 := Lib.hid (N3.out.on hb)
  have M4 := Lib.hid (show Pr .u16 .u16 V4 w4.heap.size C D by rw [← hV]; exact Pr.new _ _ _ _ _ _)
  clear hb hV HBn hPn N1 N2 N3
  go_wp2_with fail
  refine (AW.out _ hP.out).mono ?_
  rintro z w5 ⟨rfl, hb⟩
  have HBn := Lib.hid (below_on HB.out hb)
  obtain ⟨⟨x1, y1⟩, -, -⟩ := M1.out.on hb
  obtain ⟨⟨x2, y2⟩, -, -⟩ := M2.out.on hb
  obtain ⟨⟨x3, y3⟩, -, -⟩ := M3.out.on hb
  obtain ⟨⟨x4, y4⟩, -, -⟩ := M4.out.on hb
  clear hb HB hP
  go_wp2
  go_ret
  exact ⟨rfl, HBn.out⟩
set_option maxHeartbeats 400000 in
theorem creads_any (s : ByteArray) (w : World) (ht : Mxl w ∧ DbTab w) :
    Calls Tryd.prog 6 #[.string s] w fun e w' => e = .returned (.bool true) ∧ Below w.heap.size w w' := by
  by_cases hs : s.size ≤ 200
  · exact creads_core s _ _ _ _ _ _ hs (fun w => Mxl w ∧ DbTab w) (fun _ _ h hb => ⟨h.1.on hb, h.2.on hb⟩) (fun w h => pparse_any s (by omega) w h.1) (fun w => rpparse_any s (by omega) w) (fun w h => gparse_any s (by omega) w h.1) (fun w => rgparse_any s (by omega) w) (fun w h => cawake_any w h.2) w ht
  · have hns : (200 : Int) < (s.size : Int) := by omega
    go_enter Tryd.func6, Tryd.ntmps6
    go_wp2_with fail
    refine (cawake_any _ ht.2).mono ?_
    rintro x w1 ⟨rfl, hb1⟩
    go_wp2
    go_ret
    exact ⟨rfl, hb1⟩
end Go.Proofs.YtlmeagnegakifaaDoor
