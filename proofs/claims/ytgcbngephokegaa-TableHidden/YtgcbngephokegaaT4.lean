/- named: the rules of some entries. -/
import Derived.Test.YtgcbngephokegaaT2
import Derived.Deep.RegionHeldLaw
import Derived.Deep.AppendLies
namespace Go.Proofs.Ytgcbngephokegaa
open Go.RowKit Go.Maps Go.MapKept Go.ChangeMaps Go.WideElems Go.Joins
set_option linter.unusedVariables false
set_option linter.unusedSimpArgs false

/-- Rules in a row. -/
def Rules (w : World) (base : Nat) (v : Value) (L : List Ru) : Prop := Row w base 57 6 v L.length (L.flatMap Ru.cells)
theorem infoRule : (Try.prog.info? 57).map (fun i => (i.zero, i.size, i.bytes)) = some (some (.agg #[.int .i64 0, .int .i64 0, .int .u32 0, .int .i64 0, .int .i64 0, .int .i64 0]), 6, 48) := by kernel_rfl
theorem ent_at {w : World} {base : Nat} {v : Value} {P : List Ent} (h : Ents w base v P) (hn : 0 < P.length) : ∃ g cap, v = .slice (some ⟨g, 0, none⟩) P.length cap ∧
    ∀ i x, P[i]? = some x → w.cell? ⟨g, i * 3, none⟩ = some (.int .u32 (ad x.1 : Nat)) ∧ w.cell? ⟨g, i * 3 + 1, none⟩ = some (.int .i64 (x.1.length : Nat)) ∧ w.cell? ⟨g, i * 3 + 2, none⟩ = some (.int .i64 x.2) := by
  obtain ⟨g, cap, e, h1, h2, h3⟩ := Row.at h hn
  refine ⟨g, cap, e, fun i x hx => ?_⟩
  have hg := fun j (hj : j < 3) => flat_get ecell 3 P (fun _ _ => rfl) i j x hx hj
  refine ⟨h3 (i * 3) _ ?_, h3 (i * 3 + 1) _ ?_, h3 (i * 3 + 2) _ ?_⟩
  · have := hg 0 (by omega); rw [Nat.mul_comm] at this; exact this
  · have := hg 1 (by omega); rw [Nat.mul_comm] at this; exact this
  · have := hg 2 (by omega); rw [Nat.mul_comm] at this; exact this
theorem rules_snoc (L : List Ru) (i : Nat) (x : Ru) (h : L[i]? = some x) : (L.take (i + 1)).flatMap Ru.cells = (L.take i).flatMap Ru.cells ++ x.cells := by
  rw [List.take_add_one, h, Option.toList_some, List.flatMap_append]; simp
/-- What a round of named has while it loads. -/
structure GS (W : World) (B : Nat) (y : Value) (w : World) : Prop where
  b : Below W.heap.size W w
  c : w.cell? ⟨B, 2, none⟩ = some y
theorem GS.drew {W : World} {B : Nat} {y : Value} {w : World} (h : GS W B y w) : GS W B y w.drew := ⟨h.b.drew, h.c⟩
theorem GS.al {W : World} {B : Nat} {y : Value} {w : World} (h : GS W B y w) (o : Obj) : GS W B y (w.alloc o) := ⟨bel_al h.b o, ((bel_al (Below.refl w.heap.size w) o).cell (p := ⟨B, 2, none⟩) (cell_lt (o := 2) (by rw [h.c]; rfl))).trans h.c⟩
theorem GS.grown {W : World} {B : Nat} {y : Value} {w w' : World} {row : Option Nat} (h : GS W B y w) (hg : w.grownBy w' row) (hr : ∀ k, row = some k → W.heap.size ≤ k ∧ k < B) : GS W B y w' :=
  ⟨h.b.grown hg h.b.size (fun k e => (hr k e).1), (hg.cell_far ⟨B, 2, none⟩ (cell_lt (o := 2) (by rw [h.c]; rfl)) (fun e => by have := (hr B e.symm).2; omega)).trans h.c⟩
set_option maxRecDepth 100000 in
set_option maxHeartbeats 1000000 in
theorem named_any {Z : Nat → Prop} {p : Nat} {W : World} {R : List Ru} (h : Tab Z p W R) (rs : List Ru) (hrs : ∀ r ∈ rs, r ∈ R) (v : Value) (b0 : Nat) (hv : Ents W b0 v (rs.map re)) (hl : rs.length ≤ 100000) :
    Calls Try.prog 55 #[.pointer (some ⟨p, 0, none⟩), v] W fun e w' => ∃ u, e = .returned u ∧ Rules w' W.heap.size u rs ∧ Below W.heap.size W w' := by
  obtain ⟨m, E, t, hm, hp, hle, hmz⟩ := h
  obtain ⟨p0, f0⟩ := t.pre0
  have P0 := Lib.hid p0
  have HM := Lib.hid hm
  have HP := Lib.hid hp
  have HR := Lib.hid hrs
  have HV := Lib.hid hv
  obtain ⟨ad0, cap0, ev⟩ := Row.slice hv
  rw [List.length_map] at ev
  subst ev
  clear hm hp hle hmz t p0 f0 hrs hv
  go_enter Try.func55, Try.ntmps55
  go_wp2_with fail
  have R1 : Hid (Rules W W.heap.size (.slice none 0 0) []) := Lib.hid (row_nil _ _ _ _)
  go_loopw [5, 10] (fun ov iv wr => ∃ (i : Nat), iv = .int .i64 (i : Nat) ∧ i ≤ rs.length ∧ Hid (Rules wr W.heap.size ov (rs.take i)) ∧ Hid (Below W.heap.size W wr)) (fun _ iv _ => rs.length - (intOf iv).toNat)
  case atStart => exact ⟨0, rfl, Nat.zero_le _, R1, Lib.hid (Below.refl _ _)⟩
  case round =>
    obtain ⟨i, rfl, hi, Rw, Bw⟩ := hrel
    clear R1
    by_cases hik : i < rs.length
    · have hw1 : IntKind.i64.wrap ((i : Int) + 1) = ((i + 1 : Nat) : Int) := by rw [IntKind.wrap_i64]; omega
      obtain ⟨x, hx, -, -⟩ := drop_at hik
      have HX := Lib.hid hx
      have V1 := Lib.hid (show Ents wr b0 (.slice ad0 rs.length cap0) (rs.map re) from Row.on HV.out Bw.out)
      obtain ⟨g, cap, e1, hc⟩ := ent_at V1.out (by rw [List.length_map]; omega)
      rw [List.length_map] at e1
      simp at e1
      obtain ⟨rfl, rfl⟩ := e1
      obtain ⟨c0, c1, c2⟩ := hc i (re x) (by rw [List.getElem?_map, hx]; rfl)
      clear hc V1 hx
      go_upto_region 5 with fail
      refine at_code (S := fun w => Below W.heap.size W w ∧ Rules w W.heap.size u5 (rs.take i) ∧ w.cell? ⟨wr.heap.size, 2, none⟩ = some (.int .i64 x.id)) ⟨bel_al Bw.out _, Row.on Rw.out (bel_al (Below.refl _ _) _), (Blk.new wr 83 (ecell (re x))).1 2 _ rfl⟩ (fun W5 h5 => ?_)
      have hgne := (World.ownsRow.lt Rw.out.1)
      have hti : (rs.take i).length = i := by rw [List.length_take]; omega
      obtain ⟨ad5, cap5, e5⟩ := Row.slice h5.2.1
      rw [hti] at e5
      subst e5
      have B5 := Lib.hid h5.1
      have R5 := Lib.hid (show Rules W5.drew W.heap.size _ (rs.take i) from Row.on h5.2.1 (Below.drew (Below.refl _ _)))
      have x_2 := h5.2.2
      clear h5 Rw Bw c0 c1 c2
      have xin := List.mem_of_getElem? HX.out
      have xR := HR.out x xin
      have HS : Hid (∀ w', GS W wr.heap.size (.int .i64 x.id) w' → w'.cell? ⟨p, 0, none⟩ = some (.map m) ∧ w'.cell? ⟨wr.heap.size, 2, none⟩ = some (.int .i64 x.id) ∧ (Instr.lookup 106 (.map m) (.int .i64 x.id) false).run Try.prog w' = .ok (rv x) w') := Lib.hid (fun w' hg => ⟨(hg.b.cell (p := ⟨p, 0, none⟩) (cell_lt (o := 0) (by rw [P0.out]; rfl))).trans P0.out, hg.c, rm_some (HM.out.on hg.b) HP.out.n false x xR (HP.out.r x xR).2.2⟩)
      have G5 : Hid (GS W wr.heap.size (.int .i64 x.id) W5) := Lib.hid ⟨B5.out, x_2⟩
      have hrow := Lib.hid hgne
      obtain ⟨i0, hi0, hz0, hz1, hz2⟩ := hinfo_parts infoRule
      have hown := R5.out.1
      obtain ⟨cY, hcY⟩ : ∃ c, (rs.take i).flatMap Ru.cells = c := ⟨_, rfl⟩
      rw [hti, hcY] at hown
      have HCY := Lib.hid hcY
      have hbd : i + 1 ≤ 100000 := by omega
      clear hcY xin xR B5 x_2 hgne
      go_region_held_law (fun w' => w'.cell? ⟨p, 0, none⟩ = some (.map m) ∧ w'.cell? ⟨wr.heap.size, 2, none⟩ = some (.int .i64 x.id) ∧ (Instr.lookup 106 (.map m) (.int .i64 x.id) false).run Try.prog w' = .ok (rv x) w')
        ((refine HS.out _ ?_; repeat (first | exact G5.out | assumption | refine GS.drew ?_ | refine GS.al ?_ _ | (refine GS.grown ?_ (by assumption) hrow.out))))
        ((refine step_append_lies _ (by rfl) _ _ 55 (by rfl) W.heap.size 57 i0 (.agg #[.int .i64 0, .int .i64 0, .int .u32 0, .int .i64 0, .int .i64 0, .int .i64 0]) 6 48 Try.underlying55 hi0 hz0 hz1 hz2 rfl (by decide) (.slice ad5 i cap5) i cY (by rfl) (hown.alloc _) ⟨W5.heap.size, 0, none⟩ 1 1 x.cells (by rfl) (by rfl) (fun j y hj => by rw [add_plain, Nat.zero_add]; exact (Blk.new W5.drew 57 x.cells).1 j y hj) (fun y hy => by simp [Ru.cells] at hy; rcases hy with rfl | rfl | rfl | rfl | rfl | rfl <;> rfl) (by omega) (by unfold maxLen; omega) (by omega) (bel_al (Below.drew G5.out.b) _).size (W5.heap.size + 1) (by simp) ?_; intro g2 cap2 w1 hown1 hgrow hat hlt))
      rename_i hHeld
      have R6 : Hid (Rules w1 W.heap.size (.slice (some ⟨g2, 0, none⟩) (i + 1) cap2) (rs.take (i + 1))) := Lib.hid (by
        unfold Rules
        have e1 : (rs.take (i + 1)).length = i + 1 := by rw [List.length_take]; omega
        rw [rules_snoc rs i x HX.out, HCY.out, e1]
        exact ⟨hown1, ⟨fun e => (by cases e), fun e => (by omega)⟩⟩)
      have B6 : Hid (Below W.heap.size W w1) := Lib.hid (((G5.out.al _).drew.grown hgrow hrow.out).b)
      clear hgrow hat hlt hown1 hHeld HS hown hi0 hz0 hz1 hz2 R5 G5
      go_wp2_with fail
      refine ⟨⟨i + 1, by first | rfl | rw [hw1], by omega, R6, B6⟩, by simp [intOf] <;> omega⟩
    · obtain rfl : i = rs.length := by omega
      have et := List.take_of_length_le (Nat.le_refl rs.length)
      have RF := Lib.hid (show Rules wr W.heap.size _ rs from (by have := Rw.out; rw [et] at this; exact this))
      clear Rw et
      go_wp2
      go_ret
      exact ⟨_, rfl, RF.out, Bw.out⟩
end Go.Proofs.Ytgcbngephokegaa
