/- slices.MinFunc of rules. -/
import Derived.Test.YtgcbngephokegaaT4
namespace Go.Proofs.Ytgcbngephokegaa
open Go.RowKit Go.Maps Go.MapKept Go.ChangeMaps Go.WideElems Go.Joins
set_option linter.unusedVariables false
set_option linter.unusedSimpArgs false

def stepR (m y : Ru) : Ru := if compR y m < 0 then y else m
def minR (x : Ru) (L : List Ru) : Ru := L.foldl stepR x
theorem minR_snoc (x : Ru) (L : List Ru) (i : Nat) (y : Ru) (h : L[i]? = some y) : minR x (L.take (i + 1)) = stepR (minR x (L.take i)) y := by
  unfold minR
  rw [List.take_add_one, h, Option.toList_some, List.foldl_append]; rfl
theorem rule_at {w : World} {base : Nat} {v : Value} {P : List Ru} (h : Rules w base v P) (hn : 0 < P.length) : ∃ g cap, v = .slice (some ⟨g, 0, none⟩) P.length cap ∧
    ∀ i x, P[i]? = some x → w.cell? ⟨g, i * 6, none⟩ = some (.int .i64 x.id) ∧ w.cell? ⟨g, i * 6 + 1, none⟩ = some (.int .i64 x.dev) ∧ w.cell? ⟨g, i * 6 + 2, none⟩ = some (.int .u32 (x.a : Nat)) ∧ w.cell? ⟨g, i * 6 + 3, none⟩ = some (.int .i64 x.n) ∧ w.cell? ⟨g, i * 6 + 4, none⟩ = some (.int .i64 x.prio) ∧ w.cell? ⟨g, i * 6 + 5, none⟩ = some (.int .i64 x.out) := by
  obtain ⟨g, cap, e, h1, h2, h3⟩ := Row.at h hn
  refine ⟨g, cap, e, fun i x hx => ?_⟩
  have hg := fun j (hj : j < 6) => flat_get Ru.cells 6 P (fun _ _ => rfl) i j x hx hj
  refine ⟨h3 (i * 6) _ ?_, h3 (i * 6 + 1) _ ?_, h3 (i * 6 + 2) _ ?_, h3 (i * 6 + 3) _ ?_, h3 (i * 6 + 4) _ ?_, h3 (i * 6 + 5) _ ?_⟩
  · have := hg 0 (by omega); rw [Nat.mul_comm] at this; exact this
  · have := hg 1 (by omega); rw [Nat.mul_comm] at this; exact this
  · have := hg 2 (by omega); rw [Nat.mul_comm] at this; exact this
  · have := hg 3 (by omega); rw [Nat.mul_comm] at this; exact this
  · have := hg 4 (by omega); rw [Nat.mul_comm] at this; exact this
  · have := hg 5 (by omega); rw [Nat.mul_comm] at this; exact this
/-- A rule's six cells. -/
theorem blk_ru {w : World} {b : Nat} {x : Ru} (h : Blk w b x.cells) : (w.cell? ⟨b, 0, none⟩ = some (.int .i64 x.id) ∧ w.cell? ⟨b, 1, none⟩ = some (.int .i64 x.dev) ∧ w.cell? ⟨b, 2, none⟩ = some (.int .u32 (x.a : Nat)) ∧ w.cell? ⟨b, 3, none⟩ = some (.int .i64 x.n) ∧ w.cell? ⟨b, 4, none⟩ = some (.int .i64 x.prio) ∧ w.cell? ⟨b, 5, none⟩ = some (.int .i64 x.out)) ∧
    w.frozen? ⟨b, 0, none⟩ = false ∧ w.frozen? ⟨b, 1, none⟩ = false ∧ w.frozen? ⟨b, 2, none⟩ = false ∧ w.frozen? ⟨b, 3, none⟩ = false ∧ w.frozen? ⟨b, 4, none⟩ = false ∧ w.frozen? ⟨b, 5, none⟩ = false :=
  ⟨⟨h.1 0 _ rfl, h.1 1 _ rfl, h.1 2 _ rfl, h.1 3 _ rfl, h.1 4 _ rfl, h.1 5 _ rfl⟩, h.2 0 _ rfl, h.2 1 _ rfl, h.2 2 _ rfl, h.2 3 _ rfl, h.2 4 _ rfl, h.2 5 _ rfl⟩
/-- A block's six cells, written anew. -/
theorem set6 {w : World} {b : Nat} {x y : Ru} (h : Blk w b x.cells) : Blk ((((((w.setCell ⟨b, 0, none⟩ (.int .i64 y.id)).setCell ⟨b, 1, none⟩ (.int .i64 y.dev)).setCell ⟨b, 2, none⟩ (.int .u32 (y.a : Nat))).setCell ⟨b, 3, none⟩ (.int .i64 y.n)).setCell ⟨b, 4, none⟩ (.int .i64 y.prio)).setCell ⟨b, 5, none⟩ (.int .i64 y.out)) b y.cells :=
  (((((h.set 0 (.int .i64 y.id) (by simp [Ru.cells])).set 1 (.int .i64 y.dev) (by simp [Ru.cells])).set 2 (.int .u32 (y.a : Nat)) (by simp [Ru.cells])).set 3 (.int .i64 y.n) (by simp [Ru.cells])).set 4 (.int .i64 y.prio) (by simp [Ru.cells])).set 5 (.int .i64 y.out) (by simp [Ru.cells])
/-- MinFunc's world: the result's box, the least one's box. -/
structure MF (W : World) (m : Ru) (w : World) : Prop where
  b : Below W.heap.size W w
  r : Blk w W.heap.size ru0.cells
  m : Blk w (W.heap.size + 1) m.cells
theorem MF.on {W w w' : World} {m : Ru} (h : MF W m w) (hb : Below w.heap.size w w') : MF W m w' := ⟨bel_on' h.b hb, h.r.on hb, h.m.on hb⟩
theorem MF.set {W w : World} {m y : Ru} (h : MF W m w) : MF W y ((((((w.setCell ⟨W.heap.size + 1, 0, none⟩ (.int .i64 y.id)).setCell ⟨W.heap.size + 1, 1, none⟩ (.int .i64 y.dev)).setCell ⟨W.heap.size + 1, 2, none⟩ (.int .u32 (y.a : Nat))).setCell ⟨W.heap.size + 1, 3, none⟩ (.int .i64 y.n)).setCell ⟨W.heap.size + 1, 4, none⟩ (.int .i64 y.prio)).setCell ⟨W.heap.size + 1, 5, none⟩ (.int .i64 y.out)) := by
  have n1 : W.heap.size ≤ W.heap.size + 1 := Nat.le_succ _
  have n2 : W.heap.size + 1 ≠ W.heap.size := by omega
  exact ⟨(((((h.b.setCell n1 _).setCell n1 _).setCell n1 _).setCell n1 _).setCell n1 _).setCell n1 _, (((((h.r.far _ _ n2).far _ _ n2).far _ _ n2).far _ _ n2).far _ _ n2).far _ _ n2, set6 h.m⟩
set_option maxRecDepth 100000 in
set_option maxHeartbeats 1000000 in
theorem min_any (W : World) (b0 : Nat) (v : Value) (x0 : Ru) (xs : List Ru) (hv : Rules W b0 v (x0 :: xs)) (hl : xs.length ≤ 100000) :
    Calls Try.prog 56 #[v, .func (.func 40) #[] #[]] W fun e w' => e = .returned (rv (minR x0 xs)) ∧ Below W.heap.size W w' := by
  obtain ⟨g, cap, e1, -⟩ := rule_at hv (by simp)
  subst e1
  obtain ⟨n, hn⟩ : ∃ n, (x0 :: xs).length = n := ⟨_, rfl⟩
  rw [hn] at hv ⊢
  have hn1 : 1 ≤ n := by rw [← hn]; simp
  have d0 : decide ((n : Int) < 1) = false := decide_eq_false (by omega)
  have HN := Lib.hid (show n = xs.length + 1 by rw [← hn]; simp)
  have HV := Lib.hid (show ∀ w, Below W.heap.size W w → ∀ i x, (x0 :: xs)[i]? = some x → w.cell? ⟨g, i * 6, none⟩ = some (.int .i64 x.id) ∧ w.cell? ⟨g, i * 6 + 1, none⟩ = some (.int .i64 x.dev) ∧ w.cell? ⟨g, i * 6 + 2, none⟩ = some (.int .u32 (x.a : Nat)) ∧ w.cell? ⟨g, i * 6 + 3, none⟩ = some (.int .i64 x.n) ∧ w.cell? ⟨g, i * 6 + 4, none⟩ = some (.int .i64 x.prio) ∧ w.cell? ⟨g, i * 6 + 5, none⟩ = some (.int .i64 x.out) from fun w hb i x hx => by
    rw [← hn] at hv
    obtain ⟨g2, cap2, e2, hc⟩ := rule_at (show Rules w b0 _ (x0 :: xs) from Row.on hv hb) (by simp)
    cases e2
    exact hc i x hx)
  have HCmp := Lib.hid compare_any
  clear hv hn
  go_enter Try.func56, Try.ntmps56
  go_upto_region 3 with fail
  refine at_code (S := fun w => Below W.heap.size W w ∧ Blk w W.heap.size ru0.cells ∧ w.heap.size = W.heap.size + 1) ⟨bel_al (Below.refl _ _) _, Blk.new W 57 ru0.cells, World.size_alloc _ _⟩ (fun W1 h1 => ?_)
  obtain ⟨hb1, hr1, hs1⟩ := h1
  obtain ⟨z_0, z_1, z_2, z_3, z_4, z_5⟩ := HV.out W1 hb1 0 x0 rfl
  rw [Nat.zero_mul] at z_0 z_1 z_2 z_3 z_4 z_5
  have B1 := Lib.hid hb1
  have R1 := Lib.hid hr1
  have S1 := Lib.hid hs1
  have M1 : Hid (MF W x0 (W1.alloc (.cells x0.cells.toArray 57))) := Lib.hid ⟨bel_al hb1 _, hr1.on (bel_al (Below.refl _ _) _), by have := Blk.new W1 57 x0.cells; rw [hs1] at this; exact this⟩
  clear hb1 hr1 hs1
  go_upto_region 4 with fail
  refine at_code (S := MF W x0) M1.out (fun W2 h2 => ?_)
  rw [S1.out]
  have M2 := Lib.hid h2
  clear h2 M1 z_0 z_1 z_2 z_3 z_4 z_5 B1 R1 S1
  go_wp2_with fail
  go_loopw [6] (fun iv wr => ∃ (k : Nat), iv = .int .i64 ((k + 1 : Nat) : Int) ∧ k ≤ xs.length ∧ Hid (MF W (minR x0 (xs.take k)) wr)) (fun iv _ => n - (intOf iv).toNat)
  case atStart => exact ⟨0, rfl, Nat.zero_le _, M2⟩
  case round =>
    obtain ⟨k, rfl, hk, M⟩ := hrel
    clear M2
    by_cases hkl : k < xs.length
    · obtain ⟨y, hy, -, -⟩ := drop_at hkl
      have hw1 : IntKind.i64.wrap (((k + 1 : Nat) : Int) + 1) = ((k + 1 + 1 : Nat) : Int) := by rw [IntKind.wrap_i64]; have := HN.out; omega
      have hkn : k + 1 < n := by have := HN.out; omega
      have hsn := minR_snoc x0 xs k y hy
      have hyL : (x0 :: xs)[k + 1]? = some y := hy
      obtain ⟨m, hm⟩ : ∃ m, minR x0 (xs.take k) = m := ⟨_, rfl⟩
      rw [hm] at hsn M
      obtain ⟨z, hz⟩ : ∃ z, compR y m = z := ⟨_, rfl⟩
      have HCm : Hid (∀ w, Calls Try.prog 40 #[rv y, rv m] w fun e w' => e = .returned (.int .i64 z) ∧ Below w.heap.size w w') := Lib.hid (fun w => by rw [← hz]; exact HCmp.out y m w)
      have HZ := Lib.hid hz
      have HS := Lib.hid hsn
      have HY := Lib.hid hyL
      obtain ⟨q_0, q_1, q_2, q_3, q_4, q_5⟩ := HV.out wr M.out.b (k + 1) y hyL
      obtain ⟨⟨c_0, c_1, c_2, c_3, c_4, c_5⟩, -⟩ := blk_ru M.out.m
      have MD : Hid (MF W m wr.drew) := Lib.hid (M.out.on (Below.drew (Below.refl _ _)))
      clear hz hsn hy hyL hm M
      go_upto_region 7 with fail
      go_region_with (go_at_call 40; refine (HCm.out _).mono ?_; rintro e w' ⟨rfl, hb⟩; have HB := Lib.hid hb; clear hb)
      all_goals
        rename_i w' HB
        have MW := Lib.hid (MD.out.on HB.out)
        clear q_0 q_1 q_2 q_3 q_4 q_5 c_0 c_1 c_2 c_3 c_4 c_5 MD HB
        rcases Int.lt_or_le z 0 with hz0 | hz0
        · have dz : decide (z < 0) = true := decide_eq_true hz0
          have MN : Hid (MF W (minR x0 (xs.take (k + 1))) ((((((w'.setCell ⟨W.heap.size + 1, 0, none⟩ (.int .i64 y.id)).setCell ⟨W.heap.size + 1, 1, none⟩ (.int .i64 y.dev)).setCell ⟨W.heap.size + 1, 2, none⟩ (.int .u32 (y.a : Nat))).setCell ⟨W.heap.size + 1, 3, none⟩ (.int .i64 y.n)).setCell ⟨W.heap.size + 1, 4, none⟩ (.int .i64 y.prio)).setCell ⟨W.heap.size + 1, 5, none⟩ (.int .i64 y.out))) := Lib.hid (by
            rw [HS.out, show stepR m y = y from if_pos (by rw [HZ.out]; exact hz0)]; exact MW.out.set)
          obtain ⟨q_0, q_1, q_2, q_3, q_4, q_5⟩ := HV.out w' MW.out.b (k + 1) y HY.out
          obtain ⟨⟨c_0, c_1, c_2, c_3, c_4, c_5⟩, f_0, f_1, f_2, f_3, f_4, f_5⟩ := blk_ru MW.out.m
          go_upto_region 6 with fail
          refine at_code (S := MF W (minR x0 (xs.take (k + 1)))) MN.out (fun wk hk2 => ?_)
          have ML := Lib.hid hk2
          clear hk2 MN q_0 q_1 q_2 q_3 q_4 q_5 c_0 c_1 c_2 c_3 c_4 c_5 f_0 f_1 f_2 f_3 f_4 f_5 MW
          go_wp2_with fail
          refine ⟨⟨k + 1, by first | rfl | rw [hw1], by omega, ML⟩, by simp [intOf] <;> omega⟩
        · have dz : decide (z < 0) = false := decide_eq_false (by omega)
          have ML : Hid (MF W (minR x0 (xs.take (k + 1))) w') := Lib.hid (by rw [HS.out, show stepR m y = m from if_neg (by rw [HZ.out]; omega)]; exact MW.out)
          clear MW
          go_wp2_with fail
          refine ⟨⟨k + 1, by first | rfl | rw [hw1], by omega, ML⟩, by simp [intOf] <;> omega⟩
    · obtain rfl : k = xs.length := by omega
      have et := List.take_of_length_le (Nat.le_refl xs.length)
      have M3 := M.out
      rw [et] at M3
      obtain ⟨m, hm⟩ : ∃ m, minR x0 xs = m := ⟨_, rfl⟩
      rw [hm] at M3
      have HM := Lib.hid hm
      have MM := Lib.hid M3
      have MX := Lib.hid M3.r
      have d1 : decide ((xs.length : Int) + 1 < (n : Int)) = false := decide_eq_false (by have := HN.out; omega)
      obtain ⟨⟨c_0, c_1, c_2, c_3, c_4, c_5⟩, -⟩ := blk_ru M3.m
      obtain ⟨⟨x_0, x_1, x_2, x_3, x_4, x_5⟩, f_0, f_1, f_2, f_3, f_4, f_5⟩ := blk_ru M3.r
      clear M et M3 hm
      go_wp2
      have n1 : W.heap.size ≤ W.heap.size := Nat.le_refl _
      refine bodyPost_ret (v := rv m) (by simp [results, Try.results56, go_sem, x_0, x_1, x_2, x_3, x_4, x_5]) rfl ⟨by rw [HM.out], ?_⟩
      exact (((((MM.out.b.setCell n1 _).setCell n1 _).setCell n1 _).setCell n1 _).setCell n1 _).setCell n1 _
end Go.Proofs.Ytgcbngephokegaa
