/- The document's Drop. -/
import Derived.Test.YtgcbngephokegaaP1
import Derived.Test.YtgcbngephokegaaRW
import Derived.Deep.AppendLies
namespace Go.Proofs.Ytgcbngephokegaa
open Go.RowKit Go.Maps Go.MapKept Go.ChangeMaps Go.WideElems Go.Joins
set_option linter.unusedVariables false
set_option linter.unusedSimpArgs false

/-- The document's list. -/
def REnts (w : World) (base : Nat) (v : Value) (r : List Ent) : Prop := Row w base 93 3 v r.length (ecells r)
theorem infoREnt : (Try.prog.info? 93).map (fun i => (i.zero, i.size, i.bytes)) = some (some (.agg #[.int .u32 0, .int .i64 0, .int .i64 0]), 3, 24) := by kernel_rfl
theorem rent_at {w : World} {base : Nat} {v : Value} {P : List Ent} (h : REnts w base v P) (hn : 0 < P.length) : ∃ g cap, v = .slice (some ⟨g, 0, none⟩) P.length cap ∧
    ∀ i x, P[i]? = some x → w.cell? ⟨g, i * 3, none⟩ = some (.int .u32 (ad x.1 : Nat)) ∧ w.cell? ⟨g, i * 3 + 1, none⟩ = some (.int .i64 (x.1.length : Nat)) ∧ w.cell? ⟨g, i * 3 + 2, none⟩ = some (.int .i64 x.2) := by
  obtain ⟨g, cap, e, h1, h2, h3⟩ := Row.at h hn
  refine ⟨g, cap, e, fun i x hx => ?_⟩
  have hg := fun j (hj : j < 3) => flat_get ecell 3 P (fun _ _ => rfl) i j x hx hj
  refine ⟨h3 (i * 3) _ ?_, h3 (i * 3 + 1) _ ?_, h3 (i * 3 + 2) _ ?_⟩
  · have := hg 0 (by omega); rw [Nat.mul_comm] at this; exact this
  · have := hg 1 (by omega); rw [Nat.mul_comm] at this; exact this
  · have := hg 2 (by omega); rw [Nat.mul_comm] at this; exact this
/-- Whether an entry is this one, by numbers. -/
def isB (A : Nat) (n v : Int) (x : Ent) : Bool := (((ad x.1 : Nat) : Int) == (A : Int)) && ((((x.1.length : Nat) : Int) == n) && (x.2 == v))
def dropR (r : List Ent) (A : Nat) (n v : Int) : List Ent := r.filter fun x => !isB A n v x
def dropK (r : List Ent) (A : Nat) (n v : Int) : Int := if (dropR r A n v).length = r.length then 3 else 0
def dropZ (r : List Ent) (A : Nat) (n v : Int) : List Ent := if (dropR r A n v).length = r.length then r else dropR r A n v
theorem dropR_snoc (r : List Ent) (A : Nat) (n v : Int) (i : Nat) (x : Ent) (h : r[i]? = some x) : dropR (r.take (i + 1)) A n v = dropR (r.take i) A n v ++ (if isB A n v x then [] else [x]) := by
  unfold dropR
  rw [List.take_add_one, h, Option.toList_some, List.filter_append]
  congr 1
  cases c : isB A n v x <;> simp [c]
set_option maxRecDepth 100000 in
theorem rdrop_wrong (W : World) (l : Value) (A : Nat) (n v : Int) (hA : A < 4294967296) (hr : rightB A n = false) :
    Calls Try.prog 10 #[l, pv (A : Nat) n, .int .i64 v] W fun e w' => e = .returned (.tuple #[l, .int .i64 13]) ∧ Below W.heap.size W w' := by
  have hC := Lib.hid (rright_any A n hA)
  rw [hr] at hC
  go_enter Try.func10, Try.ntmps10
  go_wp2_with fail
  refine (hC.out _).mono ?_
  rintro e w2 ⟨rfl, hb⟩
  have B2 := Lib.hid (bel_on' (bel_al (Below.refl W.heap.size W) _) hb)
  clear hb hC
  go_wp2
  exact bodyPost_ret (v := .tuple #[l, .int .i64 13]) (by simp [results, Try.results10, go_sem]) rfl ⟨rfl, B2.out⟩
set_option maxRecDepth 100000 in
set_option maxHeartbeats 1000000 in
theorem rdrop_right (W : World) (b0 : Nat) (l : Value) (r : List Ent) (A : Nat) (n v : Int) (hA : A < 4294967296) (hr : rightB A n = true) (hl : REnts W b0 l r) (hlen : r.length ≤ 100000) (hb0 : b0 ≤ W.heap.size) :
    Calls Try.prog 10 #[l, pv (A : Nat) n, .int .i64 v] W fun e w' => ∃ u, e = .returned (.tuple #[u, .int .i64 (dropK r A n v)]) ∧ REnts w' b0 u (dropZ r A n v) ∧ Below W.heap.size W w' ∧ (u = l ∨ REnts w' W.heap.size u (dropZ r A n v)) := by
  have hC := Lib.hid (rright_any A n hA)
  rw [hr] at hC
  have HL := Lib.hid hl
  have HB0 := Lib.hid hb0
  obtain ⟨ad0, cap0, el⟩ := Row.slice hl
  subst el
  clear hl hb0
  go_enter Try.func10, Try.ntmps10
  go_upto_region 1 with fail
  refine at_code (S := fun w1 => Blk w1 W.heap.size [.int .u32 (A : Nat), .int .i64 n] ∧ Below W.heap.size W w1) ⟨Blk.new _ _ _, bel_al (Below.refl _ _) _⟩ (fun W1 hW => ?_)
  have X1 := Lib.hid hW.1
  have B1 := Lib.hid hW.2
  have x_0 := hW.1.1 0 _ rfl
  have x_1 := hW.1.1 1 _ rfl
  clear hW
  go_wp2_with fail
  refine (hC.out W1).mono ?_
  rintro e w2 ⟨rfl, hb⟩
  have X2 := Lib.hid (X1.out.on hb)
  have B2 := Lib.hid (bel_on' B1.out hb)
  clear hb x_0 x_1 X1 B1 hC
  have HX2 := Lib.hid (show W.heap.size < w2.heap.size from X2.out.lt)
  go_wp2_with fail
  have R1 : Hid (REnts w2 w2.heap.size (.slice none 0 0) (dropR (r.take 0) A n v)) := Lib.hid (row_nil _ _ _ _)
  go_loopw [8, 9] (fun ov iv wr => ∃ (i : Nat), iv = .int .i64 (i : Nat) ∧ i ≤ r.length ∧ Hid (REnts wr w2.heap.size ov (dropR (r.take i) A n v)) ∧ Hid (Below w2.heap.size w2 wr)) (fun _ iv _ => r.length - (intOf iv).toNat)
  case atStart => exact ⟨0, rfl, Nat.zero_le _, R1, Lib.hid (Below.refl _ _)⟩
  case round =>
    obtain ⟨i, rfl, hi, Rw, Bw⟩ := hrel
    clear R1
    by_cases hik : i < r.length
    · have hw1 : IntKind.i64.wrap ((i : Int) + 1) = ((i + 1 : Nat) : Int) := by rw [IntKind.wrap_i64]; omega
      obtain ⟨x, hx, -, -⟩ := drop_at hik
      have hsn := Lib.hid (dropR_snoc r A n v i x hx)
      have BB := Lib.hid (bel_on' B2.out Bw.out)
      have V1 := Lib.hid (show REnts wr b0 (.slice ad0 r.length cap0) r from Row.on HL.out BB.out)
      obtain ⟨g, cap, e1, hc⟩ := rent_at V1.out (by omega)
      simp at e1
      obtain ⟨rfl, rfl⟩ := e1
      obtain ⟨c0, c1, c2⟩ := hc i x hx
      have XB := Lib.hid (X2.out.on Bw.out)
      have x_0 := XB.out.1 0 _ rfl
      have x_1 := XB.out.1 1 _ rfl
      have hdl : (dropR (r.take i) A n v).length ≤ 100000 := by
        have := List.length_filter_le (fun x => !isB A n v x) (r.take i)
        rw [List.length_take] at this
        unfold dropR; omega
      clear hc V1 hx XB
      obtain ⟨b1, b2, b3, hb⟩ : ∃ b1 b2 b3 : Bool, Hid ((((ad x.1 : Nat) : Int) == (A : Int)) = b1 ∧ (((x.1.length : Nat) : Int) == n) = b2 ∧ (x.2 == v) = b3) := ⟨_, _, _, Lib.hid ⟨rfl, rfl, rfl⟩⟩
      have hB : isB A n v x = (b1 && (b2 && b3)) := by unfold isB; rw [hb.out.1, hb.out.2.1, hb.out.2.2]
      rw [hB] at hsn
      obtain ⟨hb1, hb2, hb3⟩ := hb.out
      clear hb hB
      cases b1 <;> cases b2 <;> cases b3
      · go_wp2_with fail
        go_region
        all_goals
          go_upto_region 8 with fail
          refine at_code (S := fun w => Below w2.heap.size w2 w ∧ REnts w w2.heap.size u8 (dropR (r.take i) A n v) ∧ w.cell? ⟨g, i * 3, none⟩ = some (.int .u32 (ad x.1 : Nat)) ∧ w.cell? ⟨g, i * 3 + 1, none⟩ = some (.int .i64 (x.1.length : Nat)) ∧ w.cell? ⟨g, i * 3 + 2, none⟩ = some (.int .i64 x.2)) ⟨Below.drew Bw.out, Row.on Rw.out (Below.drew (Below.refl _ _)), c0, c1, c2⟩ (fun W8 h8 => ?_)
          have B8 := Lib.hid h8.1
          have R8 := Lib.hid h8.2.1
          obtain ⟨d0, d1, d2⟩ := h8.2.2
          clear h8 c0 c1 c2 hb1 hb2 hb3 x_0 x_1 Rw Bw BB
          obtain ⟨nY, hnY⟩ : ∃ m, (dropR (r.take i) A n v).length = m := ⟨_, rfl⟩
          obtain ⟨cY, hcY⟩ : ∃ c, ecells (dropR (r.take i) A n v) = c := ⟨_, rfl⟩
          have hown := R8.out.1
          rw [hnY, hcY] at hown
          rw [hnY] at hdl
          have HNY := Lib.hid hnY
          have HCY := Lib.hid hcY
          clear hnY hcY
          obtain ⟨i0, hi0, hz0, hz1, hz2⟩ := hinfo_parts infoREnt
          have hsz := B8.out.size
          go_wp2_with (at_builtin; refine wpList_append_own _ rfl _ _ 34 rfl w2.heap.size 93 i0 (.agg #[.int .u32 0, .int .i64 0, .int .i64 0]) 3 24 Try.underlying34 hi0 hz0 hz1 hz2 rfl (by decide) _ _ _ rfl (hown.alloc _) ⟨W8.heap.size, 0, none⟩ 1 1 [.int .u32 (ad x.1 : Nat), .int .i64 (x.1.length : Nat), .int .i64 x.2] rfl rfl ?c1 ?c2 ?c3 ?c4 ?c5 ?_)
          case c1 => exact fun j y hj => by rw [add_plain, Nat.zero_add]; exact (Blk.new W8 93 [.int .u32 (ad x.1 : Nat), .int .i64 (x.1.length : Nat), .int .i64 x.2]).1 j y hj
          case c2 => intro x hx; simp at hx; rcases hx with rfl | rfl | rfl <;> rfl
          case c3 => unfold maxLen; omega
          case c4 => omega
          case c5 => simp; omega
          · intro v' w5 hown' hgrow hnl
            have R6 : Hid (REnts w5 w2.heap.size v' (dropR (r.take (i + 1)) A n v)) := Lib.hid (by
              unfold REnts
              rw [hsn.out, if_neg (by simp), ecells_app, List.length_append, HNY.out, HCY.out]
              exact ⟨hown', ⟨fun e => absurd e hnl, fun e => (by simp at e)⟩⟩)
            have B6 : Hid (Below w2.heap.size w2 w5) := Lib.hid ((B8.out.alloc hsz _).grown hgrow (by simp; omega) (fun g e => (World.ownsRow.lt hown g e).1))
            clear hown' hgrow hnl hown R8 B8 hi0 hz0 hz1 hz2 d0 d1 d2 hsz
            go_wp2_with fail
            refine ⟨⟨i + 1, by first | rfl | rw [hw1], by omega, R6, B6⟩, by simp [intOf] <;> omega⟩
      · go_wp2_with fail
        go_region
        all_goals
          go_upto_region 8 with fail
          refine at_code (S := fun w => Below w2.heap.size w2 w ∧ REnts w w2.heap.size u8 (dropR (r.take i) A n v) ∧ w.cell? ⟨g, i * 3, none⟩ = some (.int .u32 (ad x.1 : Nat)) ∧ w.cell? ⟨g, i * 3 + 1, none⟩ = some (.int .i64 (x.1.length : Nat)) ∧ w.cell? ⟨g, i * 3 + 2, none⟩ = some (.int .i64 x.2)) ⟨Below.drew Bw.out, Row.on Rw.out (Below.drew (Below.refl _ _)), c0, c1, c2⟩ (fun W8 h8 => ?_)
          have B8 := Lib.hid h8.1
          have R8 := Lib.hid h8.2.1
          obtain ⟨d0, d1, d2⟩ := h8.2.2
          clear h8 c0 c1 c2 hb1 hb2 hb3 x_0 x_1 Rw Bw BB
          obtain ⟨nY, hnY⟩ : ∃ m, (dropR (r.take i) A n v).length = m := ⟨_, rfl⟩
          obtain ⟨cY, hcY⟩ : ∃ c, ecells (dropR (r.take i) A n v) = c := ⟨_, rfl⟩
          have hown := R8.out.1
          rw [hnY, hcY] at hown
          rw [hnY] at hdl
          have HNY := Lib.hid hnY
          have HCY := Lib.hid hcY
          clear hnY hcY
          obtain ⟨i0, hi0, hz0, hz1, hz2⟩ := hinfo_parts infoREnt
          have hsz := B8.out.size
          go_wp2_with (at_builtin; refine wpList_append_own _ rfl _ _ 34 rfl w2.heap.size 93 i0 (.agg #[.int .u32 0, .int .i64 0, .int .i64 0]) 3 24 Try.underlying34 hi0 hz0 hz1 hz2 rfl (by decide) _ _ _ rfl (hown.alloc _) ⟨W8.heap.size, 0, none⟩ 1 1 [.int .u32 (ad x.1 : Nat), .int .i64 (x.1.length : Nat), .int .i64 x.2] rfl rfl ?c1 ?c2 ?c3 ?c4 ?c5 ?_)
          case c1 => exact fun j y hj => by rw [add_plain, Nat.zero_add]; exact (Blk.new W8 93 [.int .u32 (ad x.1 : Nat), .int .i64 (x.1.length : Nat), .int .i64 x.2]).1 j y hj
          case c2 => intro x hx; simp at hx; rcases hx with rfl | rfl | rfl <;> rfl
          case c3 => unfold maxLen; omega
          case c4 => omega
          case c5 => simp; omega
          · intro v' w5 hown' hgrow hnl
            have R6 : Hid (REnts w5 w2.heap.size v' (dropR (r.take (i + 1)) A n v)) := Lib.hid (by
              unfold REnts
              rw [hsn.out, if_neg (by simp), ecells_app, List.length_append, HNY.out, HCY.out]
              exact ⟨hown', ⟨fun e => absurd e hnl, fun e => (by simp at e)⟩⟩)
            have B6 : Hid (Below w2.heap.size w2 w5) := Lib.hid ((B8.out.alloc hsz _).grown hgrow (by simp; omega) (fun g e => (World.ownsRow.lt hown g e).1))
            clear hown' hgrow hnl hown R8 B8 hi0 hz0 hz1 hz2 d0 d1 d2 hsz
            go_wp2_with fail
            refine ⟨⟨i + 1, by first | rfl | rw [hw1], by omega, R6, B6⟩, by simp [intOf] <;> omega⟩
      · go_wp2_with fail
        go_region
        all_goals
          go_upto_region 8 with fail
          refine at_code (S := fun w => Below w2.heap.size w2 w ∧ REnts w w2.heap.size u8 (dropR (r.take i) A n v) ∧ w.cell? ⟨g, i * 3, none⟩ = some (.int .u32 (ad x.1 : Nat)) ∧ w.cell? ⟨g, i * 3 + 1, none⟩ = some (.int .i64 (x.1.length : Nat)) ∧ w.cell? ⟨g, i * 3 + 2, none⟩ = some (.int .i64 x.2)) ⟨Below.drew Bw.out, Row.on Rw.out (Below.drew (Below.refl _ _)), c0, c1, c2⟩ (fun W8 h8 => ?_)
          have B8 := Lib.hid h8.1
          have R8 := Lib.hid h8.2.1
          obtain ⟨d0, d1, d2⟩ := h8.2.2
          clear h8 c0 c1 c2 hb1 hb2 hb3 x_0 x_1 Rw Bw BB
          obtain ⟨nY, hnY⟩ : ∃ m, (dropR (r.take i) A n v).length = m := ⟨_, rfl⟩
          obtain ⟨cY, hcY⟩ : ∃ c, ecells (dropR (r.take i) A n v) = c := ⟨_, rfl⟩
          have hown := R8.out.1
          rw [hnY, hcY] at hown
          rw [hnY] at hdl
          have HNY := Lib.hid hnY
          have HCY := Lib.hid hcY
          clear hnY hcY
          obtain ⟨i0, hi0, hz0, hz1, hz2⟩ := hinfo_parts infoREnt
          have hsz := B8.out.size
          go_wp2_with (at_builtin; refine wpList_append_own _ rfl _ _ 34 rfl w2.heap.size 93 i0 (.agg #[.int .u32 0, .int .i64 0, .int .i64 0]) 3 24 Try.underlying34 hi0 hz0 hz1 hz2 rfl (by decide) _ _ _ rfl (hown.alloc _) ⟨W8.heap.size, 0, none⟩ 1 1 [.int .u32 (ad x.1 : Nat), .int .i64 (x.1.length : Nat), .int .i64 x.2] rfl rfl ?c1 ?c2 ?c3 ?c4 ?c5 ?_)
          case c1 => exact fun j y hj => by rw [add_plain, Nat.zero_add]; exact (Blk.new W8 93 [.int .u32 (ad x.1 : Nat), .int .i64 (x.1.length : Nat), .int .i64 x.2]).1 j y hj
          case c2 => intro x hx; simp at hx; rcases hx with rfl | rfl | rfl <;> rfl
          case c3 => unfold maxLen; omega
          case c4 => omega
          case c5 => simp; omega
          · intro v' w5 hown' hgrow hnl
            have R6 : Hid (REnts w5 w2.heap.size v' (dropR (r.take (i + 1)) A n v)) := Lib.hid (by
              unfold REnts
              rw [hsn.out, if_neg (by simp), ecells_app, List.length_append, HNY.out, HCY.out]
              exact ⟨hown', ⟨fun e => absurd e hnl, fun e => (by simp at e)⟩⟩)
            have B6 : Hid (Below w2.heap.size w2 w5) := Lib.hid ((B8.out.alloc hsz _).grown hgrow (by simp; omega) (fun g e => (World.ownsRow.lt hown g e).1))
            clear hown' hgrow hnl hown R8 B8 hi0 hz0 hz1 hz2 d0 d1 d2 hsz
            go_wp2_with fail
            refine ⟨⟨i + 1, by first | rfl | rw [hw1], by omega, R6, B6⟩, by simp [intOf] <;> omega⟩
      · go_wp2_with fail
        go_region
        all_goals
          go_upto_region 8 with fail
          refine at_code (S := fun w => Below w2.heap.size w2 w ∧ REnts w w2.heap.size u8 (dropR (r.take i) A n v) ∧ w.cell? ⟨g, i * 3, none⟩ = some (.int .u32 (ad x.1 : Nat)) ∧ w.cell? ⟨g, i * 3 + 1, none⟩ = some (.int .i64 (x.1.length : Nat)) ∧ w.cell? ⟨g, i * 3 + 2, none⟩ = some (.int .i64 x.2)) ⟨Below.drew Bw.out, Row.on Rw.out (Below.drew (Below.refl _ _)), c0, c1, c2⟩ (fun W8 h8 => ?_)
          have B8 := Lib.hid h8.1
          have R8 := Lib.hid h8.2.1
          obtain ⟨d0, d1, d2⟩ := h8.2.2
          clear h8 c0 c1 c2 hb1 hb2 hb3 x_0 x_1 Rw Bw BB
          obtain ⟨nY, hnY⟩ : ∃ m, (dropR (r.take i) A n v).length = m := ⟨_, rfl⟩
          obtain ⟨cY, hcY⟩ : ∃ c, ecells (dropR (r.take i) A n v) = c := ⟨_, rfl⟩
          have hown := R8.out.1
          rw [hnY, hcY] at hown
          rw [hnY] at hdl
          have HNY := Lib.hid hnY
          have HCY := Lib.hid hcY
          clear hnY hcY
          obtain ⟨i0, hi0, hz0, hz1, hz2⟩ := hinfo_parts infoREnt
          have hsz := B8.out.size
          go_wp2_with (at_builtin; refine wpList_append_own _ rfl _ _ 34 rfl w2.heap.size 93 i0 (.agg #[.int .u32 0, .int .i64 0, .int .i64 0]) 3 24 Try.underlying34 hi0 hz0 hz1 hz2 rfl (by decide) _ _ _ rfl (hown.alloc _) ⟨W8.heap.size, 0, none⟩ 1 1 [.int .u32 (ad x.1 : Nat), .int .i64 (x.1.length : Nat), .int .i64 x.2] rfl rfl ?c1 ?c2 ?c3 ?c4 ?c5 ?_)
          case c1 => exact fun j y hj => by rw [add_plain, Nat.zero_add]; exact (Blk.new W8 93 [.int .u32 (ad x.1 : Nat), .int .i64 (x.1.length : Nat), .int .i64 x.2]).1 j y hj
          case c2 => intro x hx; simp at hx; rcases hx with rfl | rfl | rfl <;> rfl
          case c3 => unfold maxLen; omega
          case c4 => omega
          case c5 => simp; omega
          · intro v' w5 hown' hgrow hnl
            have R6 : Hid (REnts w5 w2.heap.size v' (dropR (r.take (i + 1)) A n v)) := Lib.hid (by
              unfold REnts
              rw [hsn.out, if_neg (by simp), ecells_app, List.length_append, HNY.out, HCY.out]
              exact ⟨hown', ⟨fun e => absurd e hnl, fun e => (by simp at e)⟩⟩)
            have B6 : Hid (Below w2.heap.size w2 w5) := Lib.hid ((B8.out.alloc hsz _).grown hgrow (by simp; omega) (fun g e => (World.ownsRow.lt hown g e).1))
            clear hown' hgrow hnl hown R8 B8 hi0 hz0 hz1 hz2 d0 d1 d2 hsz
            go_wp2_with fail
            refine ⟨⟨i + 1, by first | rfl | rw [hw1], by omega, R6, B6⟩, by simp [intOf] <;> omega⟩
      · go_wp2_with fail
        go_region
        all_goals
          go_upto_region 8 with fail
          refine at_code (S := fun w => Below w2.heap.size w2 w ∧ REnts w w2.heap.size u8 (dropR (r.take i) A n v) ∧ w.cell? ⟨g, i * 3, none⟩ = some (.int .u32 (ad x.1 : Nat)) ∧ w.cell? ⟨g, i * 3 + 1, none⟩ = some (.int .i64 (x.1.length : Nat)) ∧ w.cell? ⟨g, i * 3 + 2, none⟩ = some (.int .i64 x.2)) ⟨Below.drew Bw.out, Row.on Rw.out (Below.drew (Below.refl _ _)), c0, c1, c2⟩ (fun W8 h8 => ?_)
          have B8 := Lib.hid h8.1
          have R8 := Lib.hid h8.2.1
          obtain ⟨d0, d1, d2⟩ := h8.2.2
          clear h8 c0 c1 c2 hb1 hb2 hb3 x_0 x_1 Rw Bw BB
          obtain ⟨nY, hnY⟩ : ∃ m, (dropR (r.take i) A n v).length = m := ⟨_, rfl⟩
          obtain ⟨cY, hcY⟩ : ∃ c, ecells (dropR (r.take i) A n v) = c := ⟨_, rfl⟩
          have hown := R8.out.1
          rw [hnY, hcY] at hown
          rw [hnY] at hdl
          have HNY := Lib.hid hnY
          have HCY := Lib.hid hcY
          clear hnY hcY
          obtain ⟨i0, hi0, hz0, hz1, hz2⟩ := hinfo_parts infoREnt
          have hsz := B8.out.size
          go_wp2_with (at_builtin; refine wpList_append_own _ rfl _ _ 34 rfl w2.heap.size 93 i0 (.agg #[.int .u32 0, .int .i64 0, .int .i64 0]) 3 24 Try.underlying34 hi0 hz0 hz1 hz2 rfl (by decide) _ _ _ rfl (hown.alloc _) ⟨W8.heap.size, 0, none⟩ 1 1 [.int .u32 (ad x.1 : Nat), .int .i64 (x.1.length : Nat), .int .i64 x.2] rfl rfl ?c1 ?c2 ?c3 ?c4 ?c5 ?_)
          case c1 => exact fun j y hj => by rw [add_plain, Nat.zero_add]; exact (Blk.new W8 93 [.int .u32 (ad x.1 : Nat), .int .i64 (x.1.length : Nat), .int .i64 x.2]).1 j y hj
          case c2 => intro x hx; simp at hx; rcases hx with rfl | rfl | rfl <;> rfl
          case c3 => unfold maxLen; omega
          case c4 => omega
          case c5 => simp; omega
          · intro v' w5 hown' hgrow hnl
            have R6 : Hid (REnts w5 w2.heap.size v' (dropR (r.take (i + 1)) A n v)) := Lib.hid (by
              unfold REnts
              rw [hsn.out, if_neg (by simp), ecells_app, List.length_append, HNY.out, HCY.out]
              exact ⟨hown', ⟨fun e => absurd e hnl, fun e => (by simp at e)⟩⟩)
            have B6 : Hid (Below w2.heap.size w2 w5) := Lib.hid ((B8.out.alloc hsz _).grown hgrow (by simp; omega) (fun g e => (World.ownsRow.lt hown g e).1))
            clear hown' hgrow hnl hown R8 B8 hi0 hz0 hz1 hz2 d0 d1 d2 hsz
            go_wp2_with fail
            refine ⟨⟨i + 1, by first | rfl | rw [hw1], by omega, R6, B6⟩, by simp [intOf] <;> omega⟩
      · go_wp2_with fail
        go_region
        all_goals
          go_upto_region 8 with fail
          refine at_code (S := fun w => Below w2.heap.size w2 w ∧ REnts w w2.heap.size u8 (dropR (r.take i) A n v) ∧ w.cell? ⟨g, i * 3, none⟩ = some (.int .u32 (ad x.1 : Nat)) ∧ w.cell? ⟨g, i * 3 + 1, none⟩ = some (.int .i64 (x.1.length : Nat)) ∧ w.cell? ⟨g, i * 3 + 2, none⟩ = some (.int .i64 x.2)) ⟨Below.drew Bw.out, Row.on Rw.out (Below.drew (Below.refl _ _)), c0, c1, c2⟩ (fun W8 h8 => ?_)
          have B8 := Lib.hid h8.1
          have R8 := Lib.hid h8.2.1
          obtain ⟨d0, d1, d2⟩ := h8.2.2
          clear h8 c0 c1 c2 hb1 hb2 hb3 x_0 x_1 Rw Bw BB
          obtain ⟨nY, hnY⟩ : ∃ m, (dropR (r.take i) A n v).length = m := ⟨_, rfl⟩
          obtain ⟨cY, hcY⟩ : ∃ c, ecells (dropR (r.take i) A n v) = c := ⟨_, rfl⟩
          have hown := R8.out.1
          rw [hnY, hcY] at hown
          rw [hnY] at hdl
          have HNY := Lib.hid hnY
          have HCY := Lib.hid hcY
          clear hnY hcY
          obtain ⟨i0, hi0, hz0, hz1, hz2⟩ := hinfo_parts infoREnt
          have hsz := B8.out.size
          go_wp2_with (at_builtin; refine wpList_append_own _ rfl _ _ 34 rfl w2.heap.size 93 i0 (.agg #[.int .u32 0, .int .i64 0, .int .i64 0]) 3 24 Try.underlying34 hi0 hz0 hz1 hz2 rfl (by decide) _ _ _ rfl (hown.alloc _) ⟨W8.heap.size, 0, none⟩ 1 1 [.int .u32 (ad x.1 : Nat), .int .i64 (x.1.length : Nat), .int .i64 x.2] rfl rfl ?c1 ?c2 ?c3 ?c4 ?c5 ?_)
          case c1 => exact fun j y hj => by rw [add_plain, Nat.zero_add]; exact (Blk.new W8 93 [.int .u32 (ad x.1 : Nat), .int .i64 (x.1.length : Nat), .int .i64 x.2]).1 j y hj
          case c2 => intro x hx; simp at hx; rcases hx with rfl | rfl | rfl <;> rfl
          case c3 => unfold maxLen; omega
          case c4 => omega
          case c5 => simp; omega
          · intro v' w5 hown' hgrow hnl
            have R6 : Hid (REnts w5 w2.heap.size v' (dropR (r.take (i + 1)) A n v)) := Lib.hid (by
              unfold REnts
              rw [hsn.out, if_neg (by simp), ecells_app, List.length_append, HNY.out, HCY.out]
              exact ⟨hown', ⟨fun e => absurd e hnl, fun e => (by simp at e)⟩⟩)
            have B6 : Hid (Below w2.heap.size w2 w5) := Lib.hid ((B8.out.alloc hsz _).grown hgrow (by simp; omega) (fun g e => (World.ownsRow.lt hown g e).1))
            clear hown' hgrow hnl hown R8 B8 hi0 hz0 hz1 hz2 d0 d1 d2 hsz
            go_wp2_with fail
            refine ⟨⟨i + 1, by first | rfl | rw [hw1], by omega, R6, B6⟩, by simp [intOf] <;> omega⟩
      · go_wp2_with fail
        go_region
        all_goals
          go_upto_region 8 with fail
          refine at_code (S := fun w => Below w2.heap.size w2 w ∧ REnts w w2.heap.size u8 (dropR (r.take i) A n v) ∧ w.cell? ⟨g, i * 3, none⟩ = some (.int .u32 (ad x.1 : Nat)) ∧ w.cell? ⟨g, i * 3 + 1, none⟩ = some (.int .i64 (x.1.length : Nat)) ∧ w.cell? ⟨g, i * 3 + 2, none⟩ = some (.int .i64 x.2)) ⟨Below.drew Bw.out, Row.on Rw.out (Below.drew (Below.refl _ _)), c0, c1, c2⟩ (fun W8 h8 => ?_)
          have B8 := Lib.hid h8.1
          have R8 := Lib.hid h8.2.1
          obtain ⟨d0, d1, d2⟩ := h8.2.2
          clear h8 c0 c1 c2 hb1 hb2 hb3 x_0 x_1 Rw Bw BB
          obtain ⟨nY, hnY⟩ : ∃ m, (dropR (r.take i) A n v).length = m := ⟨_, rfl⟩
          obtain ⟨cY, hcY⟩ : ∃ c, ecells (dropR (r.take i) A n v) = c := ⟨_, rfl⟩
          have hown := R8.out.1
          rw [hnY, hcY] at hown
          rw [hnY] at hdl
          have HNY := Lib.hid hnY
          have HCY := Lib.hid hcY
          clear hnY hcY
          obtain ⟨i0, hi0, hz0, hz1, hz2⟩ := hinfo_parts infoREnt
          have hsz := B8.out.size
          go_wp2_with (at_builtin; refine wpList_append_own _ rfl _ _ 34 rfl w2.heap.size 93 i0 (.agg #[.int .u32 0, .int .i64 0, .int .i64 0]) 3 24 Try.underlying34 hi0 hz0 hz1 hz2 rfl (by decide) _ _ _ rfl (hown.alloc _) ⟨W8.heap.size, 0, none⟩ 1 1 [.int .u32 (ad x.1 : Nat), .int .i64 (x.1.length : Nat), .int .i64 x.2] rfl rfl ?c1 ?c2 ?c3 ?c4 ?c5 ?_)
          case c1 => exact fun j y hj => by rw [add_plain, Nat.zero_add]; exact (Blk.new W8 93 [.int .u32 (ad x.1 : Nat), .int .i64 (x.1.length : Nat), .int .i64 x.2]).1 j y hj
          case c2 => intro x hx; simp at hx; rcases hx with rfl | rfl | rfl <;> rfl
          case c3 => unfold maxLen; omega
          case c4 => omega
          case c5 => simp; omega
          · intro v' w5 hown' hgrow hnl
            have R6 : Hid (REnts w5 w2.heap.size v' (dropR (r.take (i + 1)) A n v)) := Lib.hid (by
              unfold REnts
              rw [hsn.out, if_neg (by simp), ecells_app, List.length_append, HNY.out, HCY.out]
              exact ⟨hown', ⟨fun e => absurd e hnl, fun e => (by simp at e)⟩⟩)
            have B6 : Hid (Below w2.heap.size w2 w5) := Lib.hid ((B8.out.alloc hsz _).grown hgrow (by simp; omega) (fun g e => (World.ownsRow.lt hown g e).1))
            clear hown' hgrow hnl hown R8 B8 hi0 hz0 hz1 hz2 d0 d1 d2 hsz
            go_wp2_with fail
            refine ⟨⟨i + 1, by first | rfl | rw [hw1], by omega, R6, B6⟩, by simp [intOf] <;> omega⟩
      · go_wp2_with fail
        go_region
        all_goals
          have R6 : Hid (REnts wr.drew w2.heap.size u8 (dropR (r.take (i + 1)) A n v)) := Lib.hid (by
            rw [hsn.out, if_pos (by simp), List.append_nil]
            exact Row.on Rw.out (Below.drew (Below.refl _ _)))
          have B6 : Hid (Below w2.heap.size w2 wr.drew) := Lib.hid (Below.drew Bw.out)
          clear c0 c1 c2 hb1 hb2 hb3 x_0 x_1 Rw Bw BB
          go_wp2_with fail
          refine ⟨⟨i + 1, by first | rfl | rw [hw1], by omega, R6, B6⟩, by simp [intOf] <;> omega⟩
    · obtain rfl : i = r.length := by omega
      have et := List.take_of_length_le (Nat.le_refl r.length)
      have RF := Lib.hid (show REnts wr w2.heap.size _ (dropR r A n v) from (by have := Rw.out; rw [et] at this; exact this))
      have BF := Lib.hid (bel_on' B2.out Bw.out)
      have LF := Lib.hid (show REnts wr b0 (.slice ad0 r.length cap0) r from Row.on HL.out BF.out)
      obtain ⟨nD, hnD⟩ : ∃ m, (dropR r A n v).length = m := ⟨_, rfl⟩
      obtain ⟨ad5, cap5, e5⟩ := Row.slice RF.out
      rw [hnD] at e5
      subst e5
      have HD := Lib.hid hnD
      have HF3 : Hid (REnts wr W.heap.size (.slice ad5 nD cap5) (dropR r A n v)) := Lib.hid (Row.base RF.out (by have := HX2.out; omega))
      have HF2 : Hid (REnts wr b0 (.slice ad5 nD cap5) (dropR r A n v)) := Lib.hid (Row.base RF.out (by have := HB0.out; have := HX2.out; omega))
      clear Rw et hnD RF Bw
      by_cases hq : nD = r.length
      · have q1 : ((nD : Int) == (r.length : Int)) = true := by simp [hq]
        have HQ := Lib.hid hq
        clear hq
        go_wp2
        exact bodyPost_ret (v := .tuple #[.slice ad0 r.length cap0, .int .i64 3]) (by simp [results, Try.results10, go_sem]) rfl ⟨_, by unfold dropK; rw [HD.out, if_pos HQ.out], by unfold dropZ; rw [HD.out, if_pos HQ.out]; exact LF.out, BF.out, Or.inl rfl⟩
      · have q1 : ((nD : Int) == (r.length : Int)) = false := by simp; omega
        have HQ := Lib.hid hq
        clear hq
        go_wp2
        exact bodyPost_ret (v := .tuple #[.slice ad5 nD cap5, .int .i64 0]) (by simp [results, Try.results10, go_sem]) rfl ⟨_, by unfold dropK; rw [HD.out, if_neg HQ.out], by unfold dropZ; rw [HD.out, if_neg HQ.out]; exact HF2.out, BF.out, Or.inr (by unfold dropZ; rw [HD.out, if_neg HQ.out]; exact HF3.out)⟩
end Go.Proofs.Ytgcbngephokegaa
