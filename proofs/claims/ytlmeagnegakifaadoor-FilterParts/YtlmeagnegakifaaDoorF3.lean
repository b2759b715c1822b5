/- A filter's text, read; the document's example. -/
import Derived.Test.YtlmeagnegakifaaDoorF2
import Derived.Test.YtlmeagnegakifaaDoorAt
import Derived.Test.YtlmeagnegakifaaDoorT3
import Derived.LoopN
namespace Go.Proofs.YtlmeagnegakifaaDoor
open Go.RowKit
set_option linter.unusedVariables false

/-- A filter's fields. -/
structure Fl where
  a : Nat
  n : Nat
  b : Nat
  m : Nat
  p : Int
  l : Nat
  h : Nat
  u : Nat
  v : Nat
def fl0 : Fl := ⟨0, 0, 0, 0, 0, 0, 0, 0, 0⟩
def Fl.val (f : Fl) : Value := fv f.a f.n f.b f.m f.p f.l f.h f.u f.v
def fparts (x0 x1 : (Nat × Nat) × Int) (t : Int × Int) (x3 x4 : (Nat × Nat) × Int) : Fl × Int :=
  if x0.2 = 0 then (if x1.2 = 0 then (if t.2 = 0 then (if x3.2 = 0 then (if x4.2 = 0 then (⟨x0.1.1, x0.1.2, x1.1.1, x1.1.2, t.1, x3.1.1, x3.1.2, x4.1.1, x4.1.2⟩, 0) else (fl0, x4.2)) else (fl0, x3.2)) else (fl0, t.2)) else (fl0, x1.2)) else (fl0, x0.2)
def protoL (l : List UInt8) : Int × Int := if l = [97, 110, 121] then (-1, 0) else (((nz 255 l).1 : Int), (nz 255 l).2)
def parseF (l : List UInt8) : Fl × Int := match sp 32 l with
  | [p0, p1, p2, p3, p4] => fparts (parseP p0) (parseP p1) (protoL p2) (parseR p3) (parseR p4)
  | _ => (fl0, 6)
theorem parseF_no (l : List UInt8) (h : (sp 32 l).length ≠ 5) : parseF l = (fl0, 6) := by
  unfold parseF
  split
  · rename_i e; rw [e] at h; exact absurd rfl h
  · rfl
def FRet (T : Fl × Int) (w : World) (z : Ending) (w' : World) : Prop := z = .returned (.tuple #[T.1.val, .int .i64 T.2]) ∧ Below w.heap.size w w'
theorem splitn_any (c : UInt8) (m : Nat) (hm : 1 ≤ m) (hm' : m ≤ 1000) (s : ByteArray) (hs : s.size < 4294967281) (w : World) (ht : Mxl w) :
    Calls Tryd.prog 66 #[.string s, .string ⟨#[c]⟩, .int .i64 ((m + 1 : Nat) : Int)] w (SplitRet c m s w) := by
  obtain ⟨mx, hmx⟩ := ht
  refine (Tryd.strings_SplitN s ⟨#[c]⟩ (m + 1) mx w hs hmx (Nat.le_refl 1) (by omega) (by omega)).mono ?_
  rintro e w' ⟨rfl, rfl⟩
  have hd := Lib.splitB_data ⟨#[c]⟩ 0 (min (m + 1) (s.size + 1) - 1) s
  have hz : s.data.toList.length = s.size := by rw [Array.length_toList]; rfl
  have hk := splitN_sp c m s.data.toList hm
  rw [hz] at hk
  have hd' : (Lib.splitB ⟨#[c]⟩ 0 (min (m + 1) (s.size + 1) - 1) s).map (·.data.toList) = Lib.splitK [c] 0 (min (m + 1) (s.size + 1) - 1) s.data.toList := hd
  have hlen : (Lib.splitB ⟨#[c]⟩ 0 (min (m + 1) (s.size + 1) - 1) s).length = min (m + 1) (sp c s.data.toList).length := by rw [← hk.1, ← hd', List.length_map]
  have hle := Lib.splitB_length_le ⟨#[c]⟩ 0 (min (m + 1) (s.size + 1) - 1) s
  have hsz := fun x hx => splitB_size ⟨#[c]⟩ (min (m + 1) (s.size + 1) - 1) s x hx
  generalize hL : Lib.splitB ⟨#[c]⟩ 0 (min (m + 1) (s.size + 1) - 1) s = L at *
  generalize hN : min (m + 1) (s.size + 1) = N at *
  refine ⟨w.heap.size, N, L, rfl, by simp, ?_, below_al (Below.refl _ _) _, by omega, fun x hx => hsz x hx, fun h => ?_, by omega⟩
  · intro j x hx
    have hj : j < L.length := by
      rcases Nat.lt_or_ge j L.length with h1 | h1
      · exact h1
      · rw [List.getElem?_eq_none h1] at hx; cases hx
    have : (Lib.cellsOf L (N))[j]? = some (.string x) := by
      unfold Lib.cellsOf
      rw [List.getElem?_toArray, List.getElem?_append_left (by simpa using hj), List.getElem?_map, hx]; rfl
    simp [go_sem]
    exact this
  · rw [hd', hk.2 (by omega)]
set_option maxHeartbeats 400000 in
theorem fproto_any (s : ByteArray) (hs : s.size < 4294967281) (w : World) : Calls Tryd.prog 67 #[.string s] w fun z w' => z = .returned (.tuple #[.int .i64 (protoL s.data.toList).1, .int .i64 (protoL s.data.toList).2]) ∧ Below w.heap.size w w' := by
  by_cases c : s = ⟨#[97, 110, 121]⟩
  · subst c
    have e : protoL (⟨#[97, 110, 121]⟩ : ByteArray).data.toList = (-1, 0) := by unfold protoL; rw [if_pos (by rfl)]
    rw [e]
    go_enter Tryd.func67, Tryd.ntmps67
    go_wp2
    exact bodyPost_ret (v := .tuple #[.int .i64 (-1), .int .i64 0]) (by simp [results, Tryd.results67, go_sem]) rfl ⟨rfl, Below.refl _ _⟩
  · have e : protoL s.data.toList = (((nz 255 s.data.toList).1 : Int), (nz 255 s.data.toList).2) := by
      unfold protoL
      rw [if_neg (fun h => c (by apply ByteArray.ext; apply Array.ext'; exact h))]
    rw [e]
    have HN := Lib.hid (number_any s 255 (by omega) (by unfold maxLen; omega) w)
    generalize nz 255 s.data.toList = z at *
    have c' : (s.toList == [97, 110, 121]) = false := by rw [beq_eq_false_iff_ne, ByteArray.toList_eq]; exact fun q => c (by apply ByteArray.ext; apply Array.ext'; exact q)
    go_enter Tryd.func67, Tryd.ntmps67
    go_wp2_with fail
    refine HN.out.mono ?_
    rintro e w1 ⟨rfl, hb⟩
    go_wp2
    exact bodyPost_ret (v := .tuple #[.int .i64 z.1, .int .i64 z.2]) (by simp [results, Tryd.results67, go_sem]) rfl ⟨rfl, hb⟩
theorem Blk.put9 {w : World} {b : Nat} {c0 c1 c2 c3 c4 c5 c6 c7 c8 : Value} (h : Blk w b [c0, c1, c2, c3, c4, c5, c6, c7, c8]) (v0 v1 v2 v3 v4 v5 v6 v7 v8 : Value) :
    Blk (((((((((w.setCell ⟨b, 0, none⟩ v0).setCell ⟨b, 1, none⟩ v1).setCell ⟨b, 2, none⟩ v2).setCell ⟨b, 3, none⟩ v3).setCell ⟨b, 4, none⟩ v4).setCell ⟨b, 5, none⟩ v5).setCell ⟨b, 6, none⟩ v6).setCell ⟨b, 7, none⟩ v7).setCell ⟨b, 8, none⟩ v8) b [v0, v1, v2, v3, v4, v5, v6, v7, v8] :=
  ((((((((h.set 0 v0 (by simp)).set 1 v1 (by simp)).set 2 v2 (by simp)).set 3 v3 (by simp)).set 4 v4 (by simp)).set 5 v5 (by simp)).set 6 v6 (by simp)).set 7 v7 (by simp)).set 8 v8 (by simp)
theorem below_put9 {w0 w : World} {n b : Nat} (h : Below n w0 w) (hb : n ≤ b) (v0 v1 v2 v3 v4 v5 v6 v7 v8 : Value) :
    Below n w0 (((((((((w.setCell ⟨b, 0, none⟩ v0).setCell ⟨b, 1, none⟩ v1).setCell ⟨b, 2, none⟩ v2).setCell ⟨b, 3, none⟩ v3).setCell ⟨b, 4, none⟩ v4).setCell ⟨b, 5, none⟩ v5).setCell ⟨b, 6, none⟩ v6).setCell ⟨b, 7, none⟩ v7).setCell ⟨b, 8, none⟩ v8) :=
  ((((((((h.setCell hb _).setCell hb _).setCell hb _).setCell hb _).setCell hb _).setCell hb _).setCell hb _).setCell hb _).setCell hb _
/-- What the walk of Parse reads: its answer's block r, the filter's block f, the errors' block k, the words' block g. -/
structure FW (w W : World) (r f k g : Nat) (ss fs es : List Value) : Prop where
  R : Blk W r (fc 0 0 0 0 0 0 0 0 0)
  F : Blk W f fs
  K : Blk W k es
  S : Cel W g ss
  M : Mxl W
  B : Below w.heap.size w W
theorem FW.on {w W W' : World} {r f k g : Nat} {ss fs es : List Value} (h : FW w W r f k g ss fs es) (hb : Below W.heap.size W W') : FW w W' r f k g ss fs es :=
  ⟨h.R.on hb, h.F.on hb, h.K.on hb, h.S.on hb, h.M.on hb, below_on h.B hb⟩
theorem mxl_far {w : World} (h : Mxl w) (p : Addr) (y : Value) (hp : p.block ≠ 0) : Mxl (w.setCell p y) := by
  obtain ⟨m, hm⟩ := h
  exact ⟨m, by rw [World.cell?_setCell_far _ _ _ _ (by exact hp)]; exact hm⟩
theorem FW.setF {w W : World} {r f k g : Nat} {ss fs es : List Value} (h : FW w W r f k g ss fs es) (hrf : f ≠ r) (hkf : f ≠ k) (hgf : f ≠ g) (hm : f ≠ 0) (hw : w.heap.size ≤ f) (j : Nat) (y : Value) (hj : j < fs.length) : FW w (W.setCell ⟨f, j, none⟩ y) r f k g ss (fs.set j y) es :=
  ⟨h.R.far _ _ hrf, h.F.set j y hj, h.K.far _ _ hkf, h.S.far _ _ hgf, mxl_far h.M _ _ hm, h.B.setCell hw _⟩
theorem FW.setK {w W : World} {r f k g : Nat} {ss fs es : List Value} (h : FW w W r f k g ss fs es) (hrf : k ≠ r) (hkf : k ≠ f) (hgf : k ≠ g) (hm : k ≠ 0) (hw : w.heap.size ≤ k) (j : Nat) (y : Value) (hj : j < es.length) : FW w (W.setCell ⟨k, j, none⟩ y) r f k g ss fs (es.set j y) :=
  ⟨h.R.far _ _ hrf, h.F.far _ _ hkf, h.K.set j y hj, h.S.far _ _ hgf, mxl_far h.M _ _ hm, h.B.setCell hw _⟩
set_option maxRecDepth 100000 in
set_option maxHeartbeats 8000000 in
theorem fparse_any (s : ByteArray) (hs : s.size < 4294967281) (w : World) (ht : Mxl w) :
    Calls Tryd.prog 41 #[.string s] w (FRet (parseF s.data.toList) w) := by
  obtain ⟨T, hT⟩ : ∃ T, parseF s.data.toList = T := ⟨_, rfl⟩
  rw [hT]
  have HT := Lib.hid hT
  clear hT
  obtain ⟨W0, hW0⟩ : ∃ W0, w.alloc (Obj.cells (fc 0 0 0 0 0 0 0 0 0).toArray 62) = W0 := ⟨_, rfl⟩
  have hBW : Below w.heap.size w W0 := by rw [← hW0]; exact below_al (Below.refl _ _) _
  have HR0 := Lib.hid (show Blk W0 w.heap.size (fc 0 0 0 0 0 0 0 0 0) by rw [← hW0]; exact Blk.new _ _ _)
  have hM0 := ht.on hBW
  have hmw : 0 < w.heap.size := by obtain ⟨m, hm⟩ := ht; exact cell_lt (o := 0) (by rw [hm]; rfl)
  have HSp := Lib.hid (splitn_any 32 5 (by omega) (by omega) s hs W0 hM0)
  have HM0 := Lib.hid hM0
  have HB0 := Lib.hid hBW
  clear hBW ht hM0
  unfold fc at *
  go_enter Tryd.func41, Tryd.ntmps41
  go_upto_region 1 with fail
  clear hW0
  go_wp2_with fail
  refine HSp.out.mono ?_
  rintro e w1 ⟨g, cap, L, rfl, hg, hS, hb, hcap, hsz, h5, h5'⟩
  have HB1 := Lib.hid (below_on HB0.out hb)
  have HR1 := Lib.hid (HR0.out.on hb)
  have HM1 := Lib.hid (HM0.out.on hb)
  clear hb HSp HB0 HR0 HM0
  by_cases c : L.length = 5
  · have h1 := h5'.1 c
    have hmap := h5 h1
    obtain ⟨x0, x1, x2, x3, x4, rfl⟩ := five_of c
    have HTv : Hid (fparts (parseP x0.data.toList) (parseP x1.data.toList) (protoL x2.data.toList) (parseR x3.data.toList) (parseR x4.data.toList) = T) := by
      have h := HT.out
      unfold parseF at h
      rw [← hmap] at h
      exact h
    have hx0 := hsz x0 (by simp)
    have hx1 := hsz x1 (by simp)
    have hx2 := hsz x2 (by simp)
    have hx3 := hsz x3 (by simp)
    have hx4 := hsz x4 (by simp)
    have A0 := Lib.hid (fun w ht => pparse_any x0 (by omega) w ht)
    have A1 := Lib.hid (fun w ht => pparse_any x1 (by omega) w ht)
    have A2 := Lib.hid (fun w => fproto_any x2 (by omega) w)
    have A3 := Lib.hid (fun w ht => gparse_any x3 (by omega) w ht)
    have A4 := Lib.hid (fun w ht => gparse_any x4 (by omega) w ht)
    have HS1 : Hid (Cel w1 g [.string x0, .string x1, .string x2, .string x3, .string x4]) := fun i v hv => by
      match i, hv with
      | 0, hv => cases hv; exact hS 0 x0 rfl
      | 1, hv => cases hv; exact hS 1 x1 rfl
      | 2, hv => cases hv; exact hS 2 x2 rfl
      | 3, hv => cases hv; exact hS 3 x3 rfl
      | 4, hv => cases hv; exact hS 4 x4 rfl
      | n + 5, hv => simp at hv
    unfold PRet pv at A0 A1
    unfold GRet gv at A3 A4
    generalize parseP x0.data.toList = t0 at *
    generalize parseP x1.data.toList = t1 at *
    generalize protoL x2.data.toList = t2 at *
    generalize parseR x3.data.toList = t3 at *
    generalize parseR x4.data.toList = t4 at *
    obtain ⟨⟨a, n⟩, e0⟩ := t0
    obtain ⟨⟨b, m⟩, e1⟩ := t1
    obtain ⟨p, e2⟩ := t2
    obtain ⟨⟨l, h⟩, e3⟩ := t3
    obtain ⟨⟨u, v⟩, e4⟩ := t4
    simp only at A0 A1 A2 A3 A4
    have hcap5 : 5 ≤ cap := by simpa using hcap
    have hrw : w.heap.size < w1.heap.size := HR1.out.lt
    clear hS hsz h5 h5' hmap h1 c HT hx0 hx1 hx2 hx3 hx4 hcap
    go_upto_region 6 with fail
    refine at_p (Q := fun W => Code.wp _ _ _ _ W) (R := fun W => FW w W w.heap.size w1.heap.size (w1.heap.size + 1) g [.string x0, .string x1, .string x2, .string x3, .string x4] (fc 0 0 0 0 0 0 0 0 0) [.int .i64 0, .int .i64 0, .int .i64 0, .int .i64 0, .int .i64 0]) ?_ (fun W1 hW => ?_)
    · have k1 : Below w1.heap.size w1 (w1.alloc (Obj.cells (fc 0 0 0 0 0 0 0 0 0).toArray 62)) := below_al (Below.refl _ _) _
      have k2 := Blk.new (w1.alloc (Obj.cells (fc 0 0 0 0 0 0 0 0 0).toArray 62)) 108 [.int .i64 0, .int .i64 0, .int .i64 0, .int .i64 0, .int .i64 0]
      have k3 : Below w1.heap.size w1 ((w1.alloc (Obj.cells (fc 0 0 0 0 0 0 0 0 0).toArray 62)).alloc (Obj.cells [Value.int .i64 0, .int .i64 0, .int .i64 0, .int .i64 0, .int .i64 0].toArray 108)) := below_al k1 _
      rw [World.size_alloc] at k2
      exact ⟨HR1.out.on k3, (Blk.new _ _ _).on (below_al (Below.refl _ _) _), k2, HS1.out.on k3, HM1.out.on k3, below_on HB1.out k3⟩
    obtain ⟨f, hf⟩ : ∃ f, w1.heap.size = f := ⟨_, rfl⟩
    rw [hf] at hW hg hrw ⊢
    have V0 := Lib.hid hW
    clear hW HR1 HB1 HM1 HS1 hf
    have n1 : f ≠ w.heap.size := by omega
    have n2 : f ≠ f + 1 := by omega
    have n3 : f ≠ g := by omega
    have n4 : f ≠ 0 := by omega
    have n5 : f + 1 ≠ w.heap.size := by omega
    have n6 : f + 1 ≠ f := by omega
    have n7 : f + 1 ≠ g := by omega
    have n8 : f + 1 ≠ 0 := by omega
    have n9 : w.heap.size ≤ f := by omega
    have n10 : w.heap.size ≤ f + 1 := by omega
    unfold fc at V0
    have s0 := V0.out.S 0 _ rfl
    go_wp2_with fail
    refine (A0.out _ V0.out.M).mono ?_
    rintro e w2 ⟨rfl, hb⟩
    have U0 := Lib.hid (V0.out.on hb)
    clear hb V0 s0 A0
    have c0 := U0.out.F.1 0 _ rfl
    have d0 := U0.out.F.2 0 _ rfl
    have c1 := U0.out.F.1 1 _ rfl
    have d1 := U0.out.F.2 1 _ rfl
    have k0 := U0.out.K.1 0 _ rfl
    have f0 := U0.out.K.2 0 _ rfl
    go_upto_region 7 with fail
    refine at_p (Q := fun W => Code.wp _ _ _ _ W) (R := fun W => FW w W w.heap.size f (f + 1) g [.string x0, .string x1, .string x2, .string x3, .string x4] [.int .u32 (a : Int), .int .i64 (n : Int), .int .u32 0, .int .i64 0, .int .i64 0, .int .u16 0, .int .u16 0, .int .u16 0, .int .u16 0] [.int .i64 e0, .int .i64 0, .int .i64 0, .int .i64 0, .int .i64 0]) (((U0.out.setF n1 n2 n3 n4 n9 0 (.int .u32 (a : Int)) (by simp)).setF n1 n2 n3 n4 n9 1 (.int .i64 (n : Int)) (by simp)).setK n5 n6 n7 n8 n10 0 (.int .i64 e0) (by simp)) (fun W2 hW => ?_)
    have V1 := Lib.hid hW
    clear hW U0 c0 d0 c1 d1 k0 f0
    have s1 := V1.out.S 1 _ rfl
    go_wp2_with fail
    refine (A1.out _ V1.out.M).mono ?_
    rintro e w3 ⟨rfl, hb⟩
    have U1 := Lib.hid (V1.out.on hb)
    clear hb V1 s1 A1
    have c2 := U1.out.F.1 2 _ rfl
    have d2 := U1.out.F.2 2 _ rfl
    have c3 := U1.out.F.1 3 _ rfl
    have d3 := U1.out.F.2 3 _ rfl
    have k1 := U1.out.K.1 1 _ rfl
    have f1 := U1.out.K.2 1 _ rfl
    go_upto_region 8 with fail
    refine at_p (Q := fun W => Code.wp _ _ _ _ W) (R := fun W => FW w W w.heap.size f (f + 1) g [.string x0, .string x1, .string x2, .string x3, .string x4] [.int .u32 (a : Int), .int .i64 (n : Int), .int .u32 (b : Int), .int .i64 (m : Int), .int .i64 0, .int .u16 0, .int .u16 0, .int .u16 0, .int .u16 0] [.int .i64 e0, .int .i64 e1, .int .i64 0, .int .i64 0, .int .i64 0]) (((U1.out.setF n1 n2 n3 n4 n9 2 (.int .u32 (b : Int)) (by simp)).setF n1 n2 n3 n4 n9 3 (.int .i64 (m : Int)) (by simp)).setK n5 n6 n7 n8 n10 1 (.int .i64 e1) (by simp)) (fun W3 hW => ?_)
    have V2 := Lib.hid hW
    clear hW U1 c2 d2 c3 d3 k1 f1
    have s2 := V2.out.S 2 _ rfl
    go_wp2_with fail
    refine (A2.out _).mono ?_
    rintro e w4 ⟨rfl, hb⟩
    have U2 := Lib.hid (V2.out.on hb)
    clear hb V2 s2 A2
    have c4 := U2.out.F.1 4 _ rfl
    have d4 := U2.out.F.2 4 _ rfl
    have k2 := U2.out.K.1 2 _ rfl
    have f2 := U2.out.K.2 2 _ rfl
    go_upto_region 9 with fail
    refine at_p (Q := fun W => Code.wp _ _ _ _ W) (R := fun W => FW w W w.heap.size f (f + 1) g [.string x0, .string x1, .string x2, .string x3, .string x4] [.int .u32 (a : Int), .int .i64 (n : Int), .int .u32 (b : Int), .int .i64 (m : Int), .int .i64 (p : Int), .int .u16 0, .int .u16 0, .int .u16 0, .int .u16 0] [.int .i64 e0, .int .i64 e1, .int .i64 e2, .int .i64 0, .int .i64 0]) ((U2.out.setF n1 n2 n3 n4 n9 4 (.int .i64 (p : Int)) (by simp)).setK n5 n6 n7 n8 n10 2 (.int .i64 e2) (by simp)) (fun W4 hW => ?_)
    have V3 := Lib.hid hW
    clear hW U2 c4 d4 k2 f2
    have s3 := V3.out.S 3 _ rfl
    go_wp2_with fail
    refine (A3.out _ V3.out.M).mono ?_
    rintro e w5 ⟨rfl, hb⟩
    have U3 := Lib.hid (V3.out.on hb)
    clear hb V3 s3 A3
    have c5 := U3.out.F.1 5 _ rfl
    have d5 := U3.out.F.2 5 _ rfl
    have c6 := U3.out.F.1 6 _ rfl
    have d6 := U3.out.F.2 6 _ rfl
    have k3 := U3.out.K.1 3 _ rfl
    have f3 := U3.out.K.2 3 _ rfl
    go_upto_region 10 with fail
    refine at_p (Q := fun W => Code.wp _ _ _ _ W) (R := fun W => FW w W w.heap.size f (f + 1) g [.string x0, .string x1, .string x2, .string x3, .string x4] [.int .u32 (a : Int), .int .i64 (n : Int), .int .u32 (b : Int), .int .i64 (m : Int), .int .i64 (p : Int), .int .u16 (l : Int), .int .u16 (h : Int), .int .u16 0, .int .u16 0] [.int .i64 e0, .int .i64 e1, .int .i64 e2, .int .i64 e3, .int .i64 0]) (((U3.out.setF n1 n2 n3 n4 n9 5 (.int .u16 (l : Int)) (by simp)).setF n1 n2 n3 n4 n9 6 (.int .u16 (h : Int)) (by simp)).setK n5 n6 n7 n8 n10 3 (.int .i64 e3) (by simp)) (fun W5 hW => ?_)
    have V4 := Lib.hid hW
    clear hW U3 c5 d5 c6 d6 k3 f3
    have s4 := V4.out.S 4 _ rfl
    go_wp2_with fail
    refine (A4.out _ V4.out.M).mono ?_
    rintro e w6 ⟨rfl, hb⟩
    have U4 := Lib.hid (V4.out.on hb)
    clear hb V4 s4 A4
    have c7 := U4.out.F.1 7 _ rfl
    have d7 := U4.out.F.2 7 _ rfl
    have c8 := U4.out.F.1 8 _ rfl
    have d8 := U4.out.F.2 8 _ rfl
    have k4 := U4.out.K.1 4 _ rfl
    have f4 := U4.out.K.2 4 _ rfl
    go_upto_region 11 with fail
    refine at_p (Q := fun W => Code.wp _ _ _ _ W) (R := fun W => FW w W w.heap.size f (f + 1) g [.string x0, .string x1, .string x2, .string x3, .string x4] [.int .u32 (a : Int), .int .i64 (n : Int), .int .u32 (b : Int), .int .i64 (m : Int), .int .i64 (p : Int), .int .u16 (l : Int), .int .u16 (h : Int), .int .u16 (u : Int), .int .u16 (v : Int)] [.int .i64 e0, .int .i64 e1, .int .i64 e2, .int .i64 e3, .int .i64 e4]) (((U4.out.setF n1 n2 n3 n4 n9 7 (.int .u16 (u : Int)) (by simp)).setF n1 n2 n3 n4 n9 8 (.int .u16 (v : Int)) (by simp)).setK n5 n6 n7 n8 n10 4 (.int .i64 e4) (by simp)) (fun W6 hW => ?_)
    have V5 := Lib.hid hW
    clear hW U4 c7 d7 c8 d8 k4 f4
    have i0 : ∀ w : World, (Instr.index 108 (.agg #[.int .i64 e0, .int .i64 e1, .int .i64 e2, .int .i64 e3, .int .i64 e4]) (.int .i64 0)).run Tryd.prog w = .ok (.int .i64 e0) w := fun _ => by kernel_rfl
    have i1 : ∀ w : World, (Instr.index 108 (.agg #[.int .i64 e0, .int .i64 e1, .int .i64 e2, .int .i64 e3, .int .i64 e4]) (.int .i64 1)).run Tryd.prog w = .ok (.int .i64 e1) w := fun _ => by kernel_rfl
    have i2 : ∀ w : World, (Instr.index 108 (.agg #[.int .i64 e0, .int .i64 e1, .int .i64 e2, .int .i64 e3, .int .i64 e4]) (.int .i64 2)).run Tryd.prog w = .ok (.int .i64 e2) w := fun _ => by kernel_rfl
    have i3 : ∀ w : World, (Instr.index 108 (.agg #[.int .i64 e0, .int .i64 e1, .int .i64 e2, .int .i64 e3, .int .i64 e4]) (.int .i64 3)).run Tryd.prog w = .ok (.int .i64 e3) w := fun _ => by kernel_rfl
    have i4 : ∀ w : World, (Instr.index 108 (.agg #[.int .i64 e0, .int .i64 e1, .int .i64 e2, .int .i64 e3, .int .i64 e4]) (.int .i64 4)).run Tryd.prog w = .ok (.int .i64 e4) w := fun _ => by kernel_rfl
    obtain ⟨k0, k1, k2, k3, k4⟩ : _ ∧ _ ∧ _ ∧ _ ∧ _ := ⟨V5.out.K.1 0 _ rfl, V5.out.K.1 1 _ rfl, V5.out.K.1 2 _ rfl, V5.out.K.1 3 _ rfl, V5.out.K.1 4 _ rfl⟩
    go_wp2_with fail
    refine wp_loop_rounds 6 ?_
    clear k0 k1 k2 k3 k4
    rw [rounds_succ]
    by_cases y0 : e0 = 0
    · subst y0
      go_wp2_with fail
      rw [rounds_succ]
      by_cases y1 : e1 = 0
      · subst y1
        go_wp2_with fail
        rw [rounds_succ]
        by_cases y2 : e2 = 0
        · subst y2
          go_wp2_with fail
          rw [rounds_succ]
          by_cases y3 : e3 = 0
          · subst y3
            go_wp2_with fail
            rw [rounds_succ]
            by_cases y4 : e4 = 0
            · subst y4
              go_wp2_with fail
              have HTe : Hid (T = (⟨a, n, b, m, p, l, h, u, v⟩, 0)) := by show _ = _; rw [← HTv.out]; rfl
              obtain ⟨q0, q1, q2, q3, q4, q5, q6, q7, q8⟩ : _ ∧ _ ∧ _ ∧ _ ∧ _ ∧ _ ∧ _ ∧ _ ∧ _ := ⟨V5.out.R.1 0 _ rfl, V5.out.R.1 1 _ rfl, V5.out.R.1 2 _ rfl, V5.out.R.1 3 _ rfl, V5.out.R.1 4 _ rfl, V5.out.R.1 5 _ rfl, V5.out.R.1 6 _ rfl, V5.out.R.1 7 _ rfl, V5.out.R.1 8 _ rfl⟩
              obtain ⟨g0, g1, g2, g3, g4, g5, g6, g7, g8⟩ : _ ∧ _ ∧ _ ∧ _ ∧ _ ∧ _ ∧ _ ∧ _ ∧ _ := ⟨V5.out.R.2 0 _ rfl, V5.out.R.2 1 _ rfl, V5.out.R.2 2 _ rfl, V5.out.R.2 3 _ rfl, V5.out.R.2 4 _ rfl, V5.out.R.2 5 _ rfl, V5.out.R.2 6 _ rfl, V5.out.R.2 7 _ rfl, V5.out.R.2 8 _ rfl⟩
              obtain ⟨o0, o1, o2, o3, o4, o5, o6, o7, o8⟩ : _ ∧ _ ∧ _ ∧ _ ∧ _ ∧ _ ∧ _ ∧ _ ∧ _ := ⟨V5.out.F.1 0 _ rfl, V5.out.F.1 1 _ rfl, V5.out.F.1 2 _ rfl, V5.out.F.1 3 _ rfl, V5.out.F.1 4 _ rfl, V5.out.F.1 5 _ rfl, V5.out.F.1 6 _ rfl, V5.out.F.1 7 _ rfl, V5.out.F.1 8 _ rfl⟩
              rw [rounds_succ]
              go_wp2_with fail
              have hb9 := Blk.put9 V5.out.R (.int .u32 (a : Int)) (.int .i64 (n : Int)) (.int .u32 (b : Int)) (.int .i64 (m : Int)) (.int .i64 (p : Int)) (.int .u16 (l : Int)) (.int .u16 (h : Int)) (.int .u16 (u : Int)) (.int .u16 (v : Int))
              have bb9 := below_put9 V5.out.B (Nat.le_refl _) (.int .u32 (a : Int)) (.int .i64 (n : Int)) (.int .u32 (b : Int)) (.int .i64 (m : Int)) (.int .i64 (p : Int)) (.int .u16 (l : Int)) (.int .u16 (h : Int)) (.int .u16 (u : Int)) (.int .u16 (v : Int))
              refine at_body hb9 bb9 (fun W' HD' BB' => ?_)
              clear hb9 bb9
              obtain ⟨r0, r1, r2, r3, r4, r5, r6, r7, r8⟩ : _ ∧ _ ∧ _ ∧ _ ∧ _ ∧ _ ∧ _ ∧ _ ∧ _ := ⟨HD'.1 0 _ rfl, HD'.1 1 _ rfl, HD'.1 2 _ rfl, HD'.1 3 _ rfl, HD'.1 4 _ rfl, HD'.1 5 _ rfl, HD'.1 6 _ rfl, HD'.1 7 _ rfl, HD'.1 8 _ rfl⟩
              refine bodyPost_ret (v := .tuple #[.agg #[.int .u32 (a : Int), .int .i64 (n : Int), .int .u32 (b : Int), .int .i64 (m : Int), .int .i64 (p : Int), .int .u16 (l : Int), .int .u16 (h : Int), .int .u16 (u : Int), .int .u16 (v : Int)], .int .i64 0]) (by simp [results, Tryd.results41, go_sem, r0, r1, r2, r3, r4, r5, r6, r7, r8]) rfl ⟨?_, BB'⟩
              rw [HTe.out]; rfl
            · have y4' : (e4 != 0) = true := by simp; exact y4
              have HTe : Hid (T = (fl0, e4)) := by show _ = _; rw [← HTv.out]; unfold fparts; rw [if_pos rfl, if_pos rfl, if_pos rfl, if_pos rfl, if_neg y4]
              obtain ⟨q0, q1, q2, q3, q4, q5, q6, q7, q8⟩ : _ ∧ _ ∧ _ ∧ _ ∧ _ ∧ _ ∧ _ ∧ _ ∧ _ := ⟨V5.out.R.1 0 _ rfl, V5.out.R.1 1 _ rfl, V5.out.R.1 2 _ rfl, V5.out.R.1 3 _ rfl, V5.out.R.1 4 _ rfl, V5.out.R.1 5 _ rfl, V5.out.R.1 6 _ rfl, V5.out.R.1 7 _ rfl, V5.out.R.1 8 _ rfl⟩
              obtain ⟨g0, g1, g2, g3, g4, g5, g6, g7, g8⟩ : _ ∧ _ ∧ _ ∧ _ ∧ _ ∧ _ ∧ _ ∧ _ ∧ _ := ⟨V5.out.R.2 0 _ rfl, V5.out.R.2 1 _ rfl, V5.out.R.2 2 _ rfl, V5.out.R.2 3 _ rfl, V5.out.R.2 4 _ rfl, V5.out.R.2 5 _ rfl, V5.out.R.2 6 _ rfl, V5.out.R.2 7 _ rfl, V5.out.R.2 8 _ rfl⟩
              go_wp2_with fail
              have hb9 := Blk.put9 V5.out.R (.int .u32 0) (.int .i64 0) (.int .u32 0) (.int .i64 0) (.int .i64 0) (.int .u16 0) (.int .u16 0) (.int .u16 0) (.int .u16 0)
              have bb9 := below_put9 V5.out.B (Nat.le_refl _) (.int .u32 0) (.int .i64 0) (.int .u32 0) (.int .i64 0) (.int .i64 0) (.int .u16 0) (.int .u16 0) (.int .u16 0) (.int .u16 0)
              refine at_body hb9 bb9 (fun W' HD' BB' => ?_)
              clear hb9 bb9
              obtain ⟨r0, r1, r2, r3, r4, r5, r6, r7, r8⟩ : _ ∧ _ ∧ _ ∧ _ ∧ _ ∧ _ ∧ _ ∧ _ ∧ _ := ⟨HD'.1 0 _ rfl, HD'.1 1 _ rfl, HD'.1 2 _ rfl, HD'.1 3 _ rfl, HD'.1 4 _ rfl, HD'.1 5 _ rfl, HD'.1 6 _ rfl, HD'.1 7 _ rfl, HD'.1 8 _ rfl⟩
              refine bodyPost_ret (v := .tuple #[.agg #[.int .u32 0, .int .i64 0, .int .u32 0, .int .i64 0, .int .i64 0, .int .u16 0, .int .u16 0, .int .u16 0, .int .u16 0], .int .i64 e4]) (by simp [results, Tryd.results41, go_sem, r0, r1, r2, r3, r4, r5, r6, r7, r8]) rfl ⟨?_, BB'⟩
              rw [HTe.out]; rfl
          · have y3' : (e3 != 0) = true := by simp; exact y3
            have HTe : Hid (T = (fl0, e3)) := by show _ = _; rw [← HTv.out]; unfold fparts; rw [if_pos rfl, if_pos rfl, if_pos rfl, if_neg y3]
            obtain ⟨q0, q1, q2, q3, q4, q5, q6, q7, q8⟩ : _ ∧ _ ∧ _ ∧ _ ∧ _ ∧ _ ∧ _ ∧ _ ∧ _ := ⟨V5.out.R.1 0 _ rfl, V5.out.R.1 1 _ rfl, V5.out.R.1 2 _ rfl, V5.out.R.1 3 _ rfl, V5.out.R.1 4 _ rfl, V5.out.R.1 5 _ rfl, V5.out.R.1 6 _ rfl, V5.out.R.1 7 _ rfl, V5.out.R.1 8 _ rfl⟩
            obtain ⟨g0, g1, g2, g3, g4, g5, g6, g7, g8⟩ : _ ∧ _ ∧ _ ∧ _ ∧ _ ∧ _ ∧ _ ∧ _ ∧ _ := ⟨V5.out.R.2 0 _ rfl, V5.out.R.2 1 _ rfl, V5.out.R.2 2 _ rfl, V5.out.R.2 3 _ rfl, V5.out.R.2 4 _ rfl, V5.out.R.2 5 _ rfl, V5.out.R.2 6 _ rfl, V5.out.R.2 7 _ rfl, V5.out.R.2 8 _ rfl⟩
            go_wp2_with fail
            have hb9 := Blk.put9 V5.out.R (.int .u32 0) (.int .i64 0) (.int .u32 0) (.int .i64 0) (.int .i64 0) (.int .u16 0) (.int .u16 0) (.int .u16 0) (.int .u16 0)
            have bb9 := below_put9 V5.out.B (Nat.le_refl _) (.int .u32 0) (.int .i64 0) (.int .u32 0) (.int .i64 0) (.int .i64 0) (.int .u16 0) (.int .u16 0) (.int .u16 0) (.int .u16 0)
            refine at_body hb9 bb9 (fun W' HD' BB' => ?_)
            clear hb9 bb9
            obtain ⟨r0, r1, r2, r3, r4, r5, r6, r7, r8⟩ : _ ∧ _ ∧ _ ∧ _ ∧ _ ∧ _ ∧ _ ∧ _ ∧ _ := ⟨HD'.1 0 _ rfl, HD'.1 1 _ rfl, HD'.1 2 _ rfl, HD'.1 3 _ rfl, HD'.1 4 _ rfl, HD'.1 5 _ rfl, HD'.1 6 _ rfl, HD'.1 7 _ rfl, HD'.1 8 _ rfl⟩
            refine bodyPost_ret (v := .tuple #[.agg #[.int .u32 0, .int .i64 0, .int .u32 0, .int .i64 0, .int .i64 0, .int .u16 0, .int .u16 0, .int .u16 0, .int .u16 0], .int .i64 e3]) (by simp [results, Tryd.results41, go_sem, r0, r1, r2, r3, r4, r5, r6, r7, r8]) rfl ⟨?_, BB'⟩
            rw [HTe.out]; rfl
        · have y2' : (e2 != 0) = true := by simp; exact y2
          have HTe : Hid (T = (fl0, e2)) := by show _ = _; rw [← HTv.out]; unfold fparts; rw [if_pos rfl, if_pos rfl, if_neg y2]
          obtain ⟨q0, q1, q2, q3, q4, q5, q6, q7, q8⟩ : _ ∧ _ ∧ _ ∧ _ ∧ _ ∧ _ ∧ _ ∧ _ ∧ _ := ⟨V5.out.R.1 0 _ rfl, V5.out.R.1 1 _ rfl, V5.out.R.1 2 _ rfl, V5.out.R.1 3 _ rfl, V5.out.R.1 4 _ rfl, V5.out.R.1 5 _ rfl, V5.out.R.1 6 _ rfl, V5.out.R.1 7 _ rfl, V5.out.R.1 8 _ rfl⟩
          obtain ⟨g0, g1, g2, g3, g4, g5, g6, g7, g8⟩ : _ ∧ _ ∧ _ ∧ _ ∧ _ ∧ _ ∧ _ ∧ _ ∧ _ := ⟨V5.out.R.2 0 _ rfl, V5.out.R.2 1 _ rfl, V5.out.R.2 2 _ rfl, V5.out.R.2 3 _ rfl, V5.out.R.2 4 _ rfl, V5.out.R.2 5 _ rfl, V5.out.R.2 6 _ rfl, V5.out.R.2 7 _ rfl, V5.out.R.2 8 _ rfl⟩
          go_wp2_with fail
          have hb9 := Blk.put9 V5.out.R (.int .u32 0) (.int .i64 0) (.int .u32 0) (.int .i64 0) (.int .i64 0) (.int .u16 0) (.int .u16 0) (.int .u16 0) (.int .u16 0)
          have bb9 := below_put9 V5.out.B (Nat.le_refl _) (.int .u32 0) (.int .i64 0) (.int .u32 0) (.int .i64 0) (.int .i64 0) (.int .u16 0) (.int .u16 0) (.int .u16 0) (.int .u16 0)
          refine at_body hb9 bb9 (fun W' HD' BB' => ?_)
          clear hb9 bb9
          obtain ⟨r0, r1, r2, r3, r4, r5, r6, r7, r8⟩ : _ ∧ _ ∧ _ ∧ _ ∧ _ ∧ _ ∧ _ ∧ _ ∧ _ := ⟨HD'.1 0 _ rfl, HD'.1 1 _ rfl, HD'.1 2 _ rfl, HD'.1 3 _ rfl, HD'.1 4 _ rfl, HD'.1 5 _ rfl, HD'.1 6 _ rfl, HD'.1 7 _ rfl, HD'.1 8 _ rfl⟩
          refine bodyPost_ret (v := .tuple #[.agg #[.int .u32 0, .int .i64 0, .int .u32 0, .int .i64 0, .int .i64 0, .int .u16 0, .int .u16 0, .int .u16 0, .int .u16 0], .int .i64 e2]) (by simp [results, Tryd.results41, go_sem, r0, r1, r2, r3, r4, r5, r6, r7, r8]) rfl ⟨?_, BB'⟩
          rw [HTe.out]; rfl
      · have y1' : (e1 != 0) = true := by simp; exact y1
        have HTe : Hid (T = (fl0, e1)) := by show _ = _; rw [← HTv.out]; unfold fparts; rw [if_pos rfl, if_neg y1]
        obtain ⟨q0, q1, q2, q3, q4, q5, q6, q7, q8⟩ : _ ∧ _ ∧ _ ∧ _ ∧ _ ∧ _ ∧ _ ∧ _ ∧ _ := ⟨V5.out.R.1 0 _ rfl, V5.out.R.1 1 _ rfl, V5.out.R.1 2 _ rfl, V5.out.R.1 3 _ rfl, V5.out.R.1 4 _ rfl, V5.out.R.1 5 _ rfl, V5.out.R.1 6 _ rfl, V5.out.R.1 7 _ rfl, V5.out.R.1 8 _ rfl⟩
        obtain ⟨g0, g1, g2, g3, g4, g5, g6, g7, g8⟩ : _ ∧ _ ∧ _ ∧ _ ∧ _ ∧ _ ∧ _ ∧ _ ∧ _ := ⟨V5.out.R.2 0 _ rfl, V5.out.R.2 1 _ rfl, V5.out.R.2 2 _ rfl, V5.out.R.2 3 _ rfl, V5.out.R.2 4 _ rfl, V5.out.R.2 5 _ rfl, V5.out.R.2 6 _ rfl, V5.out.R.2 7 _ rfl, V5.out.R.2 8 _ rfl⟩
        go_wp2_with fail
        have hb9 := Blk.put9 V5.out.R (.int .u32 0) (.int .i64 0) (.int .u32 0) (.int .i64 0) (.int .i64 0) (.int .u16 0) (.int .u16 0) (.int .u16 0) (.int .u16 0)
        have bb9 := below_put9 V5.out.B (Nat.le_refl _) (.int .u32 0) (.int .i64 0) (.int .u32 0) (.int .i64 0) (.int .i64 0) (.int .u16 0) (.int .u16 0) (.int .u16 0) (.int .u16 0)
        refine at_body hb9 bb9 (fun W' HD' BB' => ?_)
        clear hb9 bb9
        obtain ⟨r0, r1, r2, r3, r4, r5, r6, r7, r8⟩ : _ ∧ _ ∧ _ ∧ _ ∧ _ ∧ _ ∧ _ ∧ _ ∧ _ := ⟨HD'.1 0 _ rfl, HD'.1 1 _ rfl, HD'.1 2 _ rfl, HD'.1 3 _ rfl, HD'.1 4 _ rfl, HD'.1 5 _ rfl, HD'.1 6 _ rfl, HD'.1 7 _ rfl, HD'.1 8 _ rfl⟩
        refine bodyPost_ret (v := .tuple #[.agg #[.int .u32 0, .int .i64 0, .int .u32 0, .int .i64 0, .int .i64 0, .int .u16 0, .int .u16 0, .int .u16 0, .int .u16 0], .int .i64 e1]) (by simp [results, Tryd.results41, go_sem, r0, r1, r2, r3, r4, r5, r6, r7, r8]) rfl ⟨?_, BB'⟩
        rw [HTe.out]; rfl
    · have y0' : (e0 != 0) = true := by simp; exact y0
      have HTe : Hid (T = (fl0, e0)) := by show _ = _; rw [← HTv.out]; unfold fparts; rw [if_neg y0]
      obtain ⟨q0, q1, q2, q3, q4, q5, q6, q7, q8⟩ : _ ∧ _ ∧ _ ∧ _ ∧ _ ∧ _ ∧ _ ∧ _ ∧ _ := ⟨V5.out.R.1 0 _ rfl, V5.out.R.1 1 _ rfl, V5.out.R.1 2 _ rfl, V5.out.R.1 3 _ rfl, V5.out.R.1 4 _ rfl, V5.out.R.1 5 _ rfl, V5.out.R.1 6 _ rfl, V5.out.R.1 7 _ rfl, V5.out.R.1 8 _ rfl⟩
      obtain ⟨g0, g1, g2, g3, g4, g5, g6, g7, g8⟩ : _ ∧ _ ∧ _ ∧ _ ∧ _ ∧ _ ∧ _ ∧ _ ∧ _ := ⟨V5.out.R.2 0 _ rfl, V5.out.R.2 1 _ rfl, V5.out.R.2 2 _ rfl, V5.out.R.2 3 _ rfl, V5.out.R.2 4 _ rfl, V5.out.R.2 5 _ rfl, V5.out.R.2 6 _ rfl, V5.out.R.2 7 _ rfl, V5.out.R.2 8 _ rfl⟩
      go_wp2_with fail
      have hb9 := Blk.put9 V5.out.R (.int .u32 0) (.int .i64 0) (.int .u32 0) (.int .i64 0) (.int .i64 0) (.int .u16 0) (.int .u16 0) (.int .u16 0) (.int .u16 0)
      have bb9 := below_put9 V5.out.B (Nat.le_refl _) (.int .u32 0) (.int .i64 0) (.int .u32 0) (.int .i64 0) (.int .i64 0) (.int .u16 0) (.int .u16 0) (.int .u16 0) (.int .u16 0)
      refine at_body hb9 bb9 (fun W' HD' BB' => ?_)
      clear hb9 bb9
      obtain ⟨r0, r1, r2, r3, r4, r5, r6, r7, r8⟩ : _ ∧ _ ∧ _ ∧ _ ∧ _ ∧ _ ∧ _ ∧ _ ∧ _ := ⟨HD'.1 0 _ rfl, HD'.1 1 _ rfl, HD'.1 2 _ rfl, HD'.1 3 _ rfl, HD'.1 4 _ rfl, HD'.1 5 _ rfl, HD'.1 6 _ rfl, HD'.1 7 _ rfl, HD'.1 8 _ rfl⟩
      refine bodyPost_ret (v := .tuple #[.agg #[.int .u32 0, .int .i64 0, .int .u32 0, .int .i64 0, .int .i64 0, .int .u16 0, .int .u16 0, .int .u16 0, .int .u16 0], .int .i64 e0]) (by simp [results, Tryd.results41, go_sem, r0, r1, r2, r3, r4, r5, r6, r7, r8]) rfl ⟨?_, BB'⟩
      rw [HTe.out]; rfl
  · have HTe : Hid (T = (fl0, 6)) := by
      show _ = _
      rw [← HT.out, parseF_no _ (fun h => c (h5'.2 h))]
    have c1 : ((L.length : Int) != 5) = true := by simp; omega
    obtain ⟨q0, q1, q2, q3, q4, q5, q6, q7, q8⟩ : _ ∧ _ ∧ _ ∧ _ ∧ _ ∧ _ ∧ _ ∧ _ ∧ _ := ⟨HR1.out.1 0 _ rfl, HR1.out.1 1 _ rfl, HR1.out.1 2 _ rfl, HR1.out.1 3 _ rfl, HR1.out.1 4 _ rfl, HR1.out.1 5 _ rfl, HR1.out.1 6 _ rfl, HR1.out.1 7 _ rfl, HR1.out.1 8 _ rfl⟩
    obtain ⟨g0, g1, g2, g3, g4, g5, g6, g7, g8⟩ : _ ∧ _ ∧ _ ∧ _ ∧ _ ∧ _ ∧ _ ∧ _ ∧ _ := ⟨HR1.out.2 0 _ rfl, HR1.out.2 1 _ rfl, HR1.out.2 2 _ rfl, HR1.out.2 3 _ rfl, HR1.out.2 4 _ rfl, HR1.out.2 5 _ rfl, HR1.out.2 6 _ rfl, HR1.out.2 7 _ rfl, HR1.out.2 8 _ rfl⟩
    go_wp2_with fail
    have hb9 := Blk.put9 HR1.out (.int .u32 0) (.int .i64 0) (.int .u32 0) (.int .i64 0) (.int .i64 0) (.int .u16 0) (.int .u16 0) (.int .u16 0) (.int .u16 0)
    have bb9 := below_put9 HB1.out (Nat.le_refl _) (.int .u32 0) (.int .i64 0) (.int .u32 0) (.int .i64 0) (.int .i64 0) (.int .u16 0) (.int .u16 0) (.int .u16 0) (.int .u16 0)
    refine at_body hb9 bb9 (fun W' HD' BB' => ?_)
    clear hb9 bb9
    obtain ⟨r0, r1, r2, r3, r4, r5, r6, r7, r8⟩ : _ ∧ _ ∧ _ ∧ _ ∧ _ ∧ _ ∧ _ ∧ _ ∧ _ := ⟨HD'.1 0 _ rfl, HD'.1 1 _ rfl, HD'.1 2 _ rfl, HD'.1 3 _ rfl, HD'.1 4 _ rfl, HD'.1 5 _ rfl, HD'.1 6 _ rfl, HD'.1 7 _ rfl, HD'.1 8 _ rfl⟩
    refine bodyPost_ret (v := .tuple #[.agg #[.int .u32 0, .int .i64 0, .int .u32 0, .int .i64 0, .int .i64 0, .int .u16 0, .int .u16 0, .int .u16 0, .int .u16 0], .int .i64 6]) (by simp [results, Tryd.results41, go_sem, r0, r1, r2, r3, r4, r5, r6, r7, r8]) rfl ⟨?_, BB'⟩
    rw [HTe.out]; rfl
theorem awake_text : parseF [49, 48, 46, 48, 46, 48, 46, 48, 47, 56, 32, 48, 46, 48, 46, 48, 46, 48, 47, 48, 32, 97, 110, 121, 32, 48, 45, 54, 53, 53, 51, 53, 32, 56, 48, 45, 56, 48] = (⟨167772160, 8, 0, 0, -1, 0, 65535, 80, 80⟩, 0) := by kernel_rfl
theorem inR_eq (l h x : Nat) : inR l h x = inR_i l h x := by
  unfold inR inR_i
  rw [← Bool.decide_and, decide_eq_decide]; omega
theorem inb_any (l h x : Nat) (w : World) : Calls Tryd.prog 60 #[rv l h, .int .u16 x] w fun e w' => e = .returned (.bool (inR l h x)) ∧ Below w.heap.size w w' :=
  (in_any l h x w).mono (by rintro e w' ⟨rfl, rfl⟩; exact ⟨rfl, below_al (Below.refl _ _) _⟩)
theorem fmatch_any (f : Fl) (d s q x y : Nat) (hd : d < 4294967296) (hs : s < 4294967296) (hq : q < 256) (w : World) :
    Calls Tryd.prog 34 #[f.val, hv d s q x y] w fun e w' => e = .returned (.bool (hasB f.a f.n d && hasB f.b f.m s && prB f.p q && inR f.l f.h x && inR f.u f.v y)) ∧ Below w.heap.size w w' :=
  fmatch_core f.a f.n f.b f.m f.p f.l f.h f.u f.v d s q x y (by omega) _ _ _ _ (fun w => has_any f.a f.n d hd w) (fun w => has_any f.b f.m s hs w) (fun w => inb_any f.l f.h x w) (fun w => inb_any f.u f.v y w) _ rfl w
set_option maxRecDepth 100000 in
set_option maxHeartbeats 1000000 in
theorem fawake_any (w : World) (ht : Mxl w) : Calls Tryd.prog 36 #[] w fun e w' => e = .returned (.bool true) ∧ Below w.heap.size w w' := by
  have hP := fparse_any ⟨#[49, 48, 46, 48, 46, 48, 46, 48, 47, 56, 32, 48, 46, 48, 46, 48, 46, 48, 47, 48, 32, 97, 110, 121, 32, 48, 45, 54, 53, 53, 51, 53, 32, 56, 48, 45, 56, 48]⟩ (by decide) w ht
  rw [show (⟨#[49, 48, 46, 48, 46, 48, 46, 48, 47, 56, 32, 48, 46, 48, 46, 48, 46, 48, 47, 48, 32, 97, 110, 121, 32, 48, 45, 54, 53, 53, 51, 53, 32, 56, 48, 45, 56, 48]⟩ : ByteArray).data.toList = [49, 48, 46, 48, 46, 48, 46, 48, 47, 56, 32, 48, 46, 48, 46, 48, 46, 48, 47, 48, 32, 97, 110, 121, 32, 48, 45, 54, 53, 53, 51, 53, 32, 56, 48, 45, 56, 48] from rfl, awake_text] at hP
  have HPa := Lib.hid hP
  have M1 : Hid (∀ w, Calls Tryd.prog 34 #[fv 167772160 8 0 0 (-1) 0 65535 80 80, hv 167772161 0 0 0 80] w fun e w' => e = .returned (.bool true) ∧ Below w.heap.size w w') := fun w => by
    have q := fmatch_any ⟨167772160, 8, 0, 0, -1, 0, 65535, 80, 80⟩ 167772161 0 0 0 80 (by omega) (by omega) (by omega) w
    rw [show (hasB 167772160 ((8 : Nat) : Int) 167772161 && hasB 0 ((0 : Nat) : Int) 0 && prB (-1) ((0 : Nat) : Int) && inR 0 65535 0 && inR 80 80 80) = true by decide +kernel] at q
    exact q
  have M2 : Hid (∀ w, Calls Tryd.prog 34 #[fv 167772160 8 0 0 (-1) 0 65535 80 80, hv 184549377 0 0 0 80] w fun e w' => e = .returned (.bool false) ∧ Below w.heap.size w w') := fun w => by
    have q := fmatch_any ⟨167772160, 8, 0, 0, -1, 0, 65535, 80, 80⟩ 184549377 0 0 0 80 (by omega) (by omega) (by omega) w
    rw [show (hasB 167772160 ((8 : Nat) : Int) 184549377 && hasB 0 ((0 : Nat) : Int) 0 && prB (-1) ((0 : Nat) : Int) && inR 0 65535 0 && inR 80 80 80) = false by decide +kernel] at q
    exact q
  clear hP
  unfold fv hv at M1 M2
  go_enter Tryd.func36, Tryd.ntmps36
  go_wp2_with fail
  refine HPa.out.mono ?_
  rintro e w1 ⟨rfl, hb⟩
  have HB1 := Lib.hid hb
  clear hb
  unfold Fl.val fv
  go_upto_region 2 with fail
  refine at_b1 (Q := fun W => Code.wp _ _ _ _ W) (Blk.new w1 62 (fc 167772160 8 0 0 (-1) 0 65535 80 80)) (below_al HB1.out _) (fun W2 hF hB => ?_)
  unfold fc at hF
  have F2 := Lib.hid hF
  have HB2 := Lib.hid hB
  clear hF hB HB1 HPa
  obtain ⟨z0, z1, z2, z3, z4, z5, z6, z7, z8⟩ : _ ∧ _ ∧ _ ∧ _ ∧ _ ∧ _ ∧ _ ∧ _ ∧ _ := ⟨F2.out.1 0 _ rfl, F2.out.1 1 _ rfl, F2.out.1 2 _ rfl, F2.out.1 3 _ rfl, F2.out.1 4 _ rfl, F2.out.1 5 _ rfl, F2.out.1 6 _ rfl, F2.out.1 7 _ rfl, F2.out.1 8 _ rfl⟩
  go_wp2_with fail
  refine (M1.out _).mono ?_
  rintro e w3 ⟨rfl, hb⟩
  have F3 := F2.out.on hb
  have HB3 := Lib.hid (below_on HB2.out hb)
  clear hb z0 z1 z2 z3 z4 z5 z6 z7 z8 F2 HB2
  obtain ⟨z0, z1, z2, z3, z4, z5, z6, z7, z8⟩ : _ ∧ _ ∧ _ ∧ _ ∧ _ ∧ _ ∧ _ ∧ _ ∧ _ := ⟨F3.1 0 _ rfl, F3.1 1 _ rfl, F3.1 2 _ rfl, F3.1 3 _ rfl, F3.1 4 _ rfl, F3.1 5 _ rfl, F3.1 6 _ rfl, F3.1 7 _ rfl, F3.1 8 _ rfl⟩
  go_wp2_with fail
  refine (M2.out _).mono ?_
  rintro e w4 ⟨rfl, hb⟩
  have HB4 := Lib.hid (below_on HB3.out hb)
  clear hb
  go_wp2
  go_ret
  exact ⟨rfl, HB4.out⟩
end Go.Proofs.YtlmeagnegakifaaDoor
