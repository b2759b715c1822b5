/- The document's Of; Meeting of a wrong prefix. -/
import Derived.Test.YtgcbngephokegaaP4
namespace Go.Proofs.Ytgcbngephokegaa
open Go.RowKit Go.Maps Go.MapKept Go.ChangeMaps Go.WideElems Go.Joins
set_option linter.unusedVariables false
set_option linter.unusedSimpArgs false

def ofB (A n : Nat) (x : Ent) : Bool := decide (x.1.length = n) && decide (A / sz n = ad x.1 / sz n)
def ofN (r : List Ent) (A n : Nat) : List Ent := r.filter (ofB A n)
def ofL (r : List Ent) (A : Nat) : Nat → List Ent
  | 0 => []
  | n + 1 => ofL r A n ++ ofN r A n
theorem ofN_snoc (r : List Ent) (A n : Nat) (i : Nat) (x : Ent) (h : r[i]? = some x) : ofN (r.take (i + 1)) A n = ofN (r.take i) A n ++ (if ofB A n x = true then [x] else []) := by
  unfold ofN
  rw [List.take_add_one, h, Option.toList_some, List.filter_append, filter_one]
theorem ofL_len (r : List Ent) (A : Nat) : ∀ n, (ofL r A n).length ≤ n * r.length
  | 0 => Nat.zero_le _
  | n + 1 => by
    have h1 := ofL_len r A n
    have h2 := List.length_filter_le (ofB A n) r
    show (ofL r A n ++ ofN r A n).length ≤ _
    rw [List.length_append, Nat.succ_mul]
    unfold ofN; omega
set_option maxRecDepth 100000 in
set_option maxHeartbeats 4000000 in
theorem rof_any (W : World) (b0 : Nat) (l : Value) (r : List Ent) (A : Nat) (hA : A < 4294967296) (hl : REnts W b0 l r) (hlen : r.length ≤ 10000) (hle : ∀ x ∈ r, x.1.length ≤ 32) :
    Calls Try.prog 19 #[l, .int .u32 (A : Nat)] W fun e w' => ∃ u, e = .returned u ∧ REnts w' W.heap.size u (ofL r A 33) ∧ Below W.heap.size W w' := by
  have HL := Lib.hid hl
  have HE := Lib.hid hle
  obtain ⟨ad0, cap0, el⟩ := Row.slice hl
  subst el
  clear hl hle
  go_enter Try.func19, Try.ntmps19
  go_wp2_with fail
  have R1 : Hid (REnts W W.heap.size (.slice none 0 0) (ofL r A 0)) := Lib.hid (row_nil _ _ _ _)
  go_loopw [5, 6] (fun ov nv wr => ∃ (n : Nat), nv = .int .i64 (n : Nat) ∧ n ≤ 33 ∧ Hid (REnts wr W.heap.size ov (ofL r A n)) ∧ Hid (Below W.heap.size W wr)) (fun _ nv _ => 33 - (intOf nv).toNat)
  case atStart => exact ⟨0, rfl, Nat.zero_le _, R1, Lib.hid (Below.refl _ _)⟩
  case round =>
    obtain ⟨n, rfl, hn, Ro, Bo⟩ := hrel
    clear R1
    by_cases hn3 : n < 33
    · have hwn : IntKind.i64.wrap ((n : Int) + 1) = ((n + 1 : Nat) : Int) := by rw [IntKind.wrap_i64]; omega
      have dn : decide ((n : Int) ≤ 32) = true := decide_eq_true (by omega)
      have hol := Lib.hid (ofL_len r A n)
      go_wp2_with fail
      have R2 : Hid (REnts wr W.heap.size u5 (ofL r A n ++ ofN (r.take 0) A n)) := Lib.hid (by have := Ro.out; simpa [ofN] using this)
      go_loopw [5, 7] (fun ov iv wr => ∃ (i : Nat), iv = .int .i64 (i : Nat) ∧ i ≤ r.length ∧ Hid (REnts wr W.heap.size ov (ofL r A n ++ ofN (r.take i) A n)) ∧ Hid (Below W.heap.size W wr)) (fun _ iv _ => r.length - (intOf iv).toNat)
      case atStart => exact ⟨0, rfl, Nat.zero_le _, R2, Bo⟩
      case round =>
        obtain ⟨i, rfl, hi, Rw, Bw⟩ := hrel
        clear R2 Ro Bo
        by_cases hik : i < r.length
        · have hw1 : IntKind.i64.wrap ((i : Int) + 1) = ((i + 1 : Nat) : Int) := by rw [IntKind.wrap_i64]; omega
          obtain ⟨x, hx, -, hxm⟩ := drop_at hik
          have hsn := ofN_snoc r A n i x hx
          unfold ofB at hsn
          have hxl := HE.out x hxm
          obtain ⟨g, cap, e1, -⟩ := rent_at (show REnts wr b0 (.slice ad0 r.length cap0) r from Row.on HL.out Bw.out) (by omega)
          simp at e1
          obtain ⟨rfl, rfl⟩ := e1
          have hdl : (ofL r A n ++ ofN (r.take i) A n).length ≤ 400000 := by
            have := List.length_filter_le (ofB A n) (r.take i)
            have h3 := hol.out
            have h4 : n * r.length ≤ 33 * r.length := Nat.mul_le_mul_right _ (by omega)
            rw [List.length_take] at this
            rw [List.length_append]
            unfold ofN; omega
          have H1 := Lib.hid (rhas_any (ad x.1) x.1.length A hxl (ad_lt x.1 hxl) hA)
          obtain ⟨a, ha⟩ : ∃ a, ad x.1 = a := ⟨_, rfl⟩
          obtain ⟨m, hm⟩ : ∃ m, x.1.length = m := ⟨_, rfl⟩
          rw [ha] at H1 hsn
          rw [hm] at H1 hsn
          have HVx : Hid (∀ w, Below W.heap.size W w → w.cell? ⟨g, i * 3, none⟩ = some (.int .u32 (a : Nat)) ∧ w.cell? ⟨g, i * 3 + 1, none⟩ = some (.int .i64 (m : Nat)) ∧ w.cell? ⟨g, i * 3 + 2, none⟩ = some (.int .i64 x.2)) := Lib.hid (fun w hb => by
            obtain ⟨g2, cap2, q1, q2⟩ := rent_at (show REnts w b0 _ r from Row.on HL.out hb) (by omega)
            simp at q1
            obtain ⟨rfl, -⟩ := q1
            rw [← ha, ← hm]
            exact q2 i x hx)
          have HXC : Hid (ecell x = [.int .u32 (a : Nat), .int .i64 (m : Nat), .int .i64 x.2]) := Lib.hid (by unfold ecell; rw [ha, hm])
          obtain ⟨c0, c1, c2⟩ := HVx.out wr Bw.out
          clear hx hxm hxl ha hm
          by_cases hmn : m = n
          · subst hmn
            obtain ⟨h1, e1⟩ : ∃ b, decide (A / sz m = a / sz m) = b := ⟨_, rfl⟩
            rw [e1] at H1 hsn
            rw [decide_eq_true rfl] at hsn
            clear e1
            go_wp2_with fail
            refine (H1.out wr).mono ?_
            rintro e W7 ⟨rfl, hb⟩
            have B7 := Lib.hid (bel_on' Bw.out hb)
            have R7 := Lib.hid (show REnts W7 W.heap.size _ _ from Row.on Rw.out hb)
            clear hb c0 c1 c2 Rw Bw
            cases h1 with
            | true =>
              have hsn := Lib.hid (show ofN (r.take (i + 1)) A m = ofN (r.take i) A m ++ [x] by rw [hsn]; rfl)
              go_upto_region 9 with fail
              obtain ⟨d0, d1x, d2x⟩ := HVx.out W7 B7.out
              obtain ⟨nY, hnY⟩ : ∃ q, (ofL r A m ++ ofN (r.take i) A m).length = q := ⟨_, rfl⟩
              obtain ⟨cY, hcY⟩ : ∃ c, ecells (ofL r A m ++ ofN (r.take i) A m) = c := ⟨_, rfl⟩
              have hown := R7.out.1
              rw [hnY, hcY] at hown
              rw [hnY] at hdl
              have HNY := Lib.hid hnY
              have HCY := Lib.hid hcY
              clear hnY hcY
              obtain ⟨i0, hi0, hz0, hz1, hz2⟩ := hinfo_parts infoREnt
              have hsz := B7.out.size
              go_wp2_with (at_builtin; refine wpList_append_own _ rfl _ _ 34 rfl W.heap.size 93 i0 (.agg #[.int .u32 0, .int .i64 0, .int .i64 0]) 3 24 Try.underlying34 hi0 hz0 hz1 hz2 rfl (by decide) _ _ _ rfl (hown.alloc _) ⟨W7.heap.size, 0, none⟩ 1 1 [.int .u32 (a : Nat), .int .i64 (m : Nat), .int .i64 x.2] rfl rfl ?c1 ?c2 ?c3 ?c4 ?c5 ?_)
              case c1 => exact fun j y hj => by rw [add_plain, Nat.zero_add]; exact (Blk.new W7 93 [.int .u32 (a : Nat), .int .i64 (m : Nat), .int .i64 x.2]).1 j y hj
              case c2 => intro x hx; simp at hx; rcases hx with rfl | rfl | rfl <;> rfl
              case c3 => unfold maxLen; omega
              case c4 => omega
              case c5 => simp; omega
              · intro v' w5 hown' hgrow hnl
                have RX : Hid (REnts w5 W.heap.size v' (ofL r A m ++ ofN (r.take (i + 1)) A m)) := Lib.hid (by
                  unfold REnts
                  rw [hsn.out, ← List.append_assoc, ecells_app, List.length_append, HNY.out, HCY.out, show ecells [x] = ecell x by simp [ecells], HXC.out]
                  exact ⟨hown', ⟨fun e => absurd e hnl, fun e => (by simp at e)⟩⟩)
                have BX : Hid (Below W.heap.size W w5) := Lib.hid ((B7.out.alloc hsz _).grown hgrow (by simp; omega) (fun g e => (World.ownsRow.lt hown g e).1))
                clear hown' hgrow hnl hown R7 B7 hi0 hz0 hz1 hz2 d0 d1x d2x hsz
                go_wp2_with fail
                refine ⟨⟨i + 1, by first | rfl | rw [hw1], by omega, RX, BX⟩, by simp [intOf] <;> omega⟩
            | false =>
              have RX : Hid (REnts W7 W.heap.size u5 (ofL r A m ++ ofN (r.take (i + 1)) A m)) := Lib.hid (by rw [hsn, if_neg (by simp), List.append_nil]; exact R7.out)
              go_wp2_with fail
              refine ⟨⟨i + 1, by first | rfl | rw [hw1], by omega, RX, B7⟩, by simp [intOf] <;> omega⟩
          · have dm : ((m : Int) == (n : Int)) = false := by simp; omega
            rw [decide_eq_false hmn] at hsn
            have RX : Hid (REnts wr W.heap.size u5 (ofL r A n ++ ofN (r.take (i + 1)) A n)) := Lib.hid (by rw [hsn, if_neg (by simp), List.append_nil]; exact Rw.out)
            clear Rw hmn
            go_wp2_with fail
            refine ⟨⟨i + 1, by first | rfl | rw [hw1], by omega, RX, Bw⟩, by simp [intOf] <;> omega⟩
        · obtain rfl : i = r.length := by omega
          have et := List.take_of_length_le (Nat.le_refl r.length)
          have RX : Hid (REnts wr W.heap.size _ (ofL r A (n + 1))) := Lib.hid (by have := Rw.out; rw [et] at this; exact this)
          clear Rw et
          go_wp2_with fail
          refine ⟨?_, ?_⟩
          · exact ⟨n + 1, by first | rfl | rw [hwn], by omega, RX, Bw⟩
          · simp [intOf] <;> omega
    · obtain rfl : n = 33 := by omega
      go_wp2
      go_ret
      exact ⟨_, rfl, Ro.out, Bo.out⟩
set_option maxRecDepth 100000 in
set_option maxHeartbeats 1000000 in
theorem rmeet_wrong (W : World) (b0 : Nat) (l : Value) (r : List Ent) (A : Nat) (n : Int) (hA : A < 4294967296) (hr : rightB A n = false) (hl : REnts W b0 l r) (hlen : r.length ≤ 100000) :
    Calls Try.prog 21 #[l, pv (A : Nat) n] W fun e w' => e = .returned (.slice none 0 0) ∧ Below W.heap.size W w' := by
  have hC := Lib.hid (rright_any A n hA)
  rw [hr] at hC
  have HL := Lib.hid hl
  obtain ⟨ad0, cap0, el⟩ := Row.slice hl
  subst el
  clear hl hr
  go_enter Try.func21, Try.ntmps21
  go_upto_region 1 with fail
  refine at_code (S := fun w1 => Blk w1 W.heap.size [.int .u32 (A : Nat), .int .i64 n] ∧ Below W.heap.size W w1) ⟨Blk.new _ _ _, bel_al (Below.refl _ _) _⟩ (fun w2 hW => ?_)
  have X2 := Lib.hid hW.1
  have B2 := Lib.hid hW.2
  clear hW
  go_wp2_with fail
  go_loopw [5, 6] (fun ov iv wr => ∃ (i : Nat), ov = .slice none 0 0 ∧ iv = .int .i64 (i : Nat) ∧ i ≤ r.length ∧ Hid (Below w2.heap.size w2 wr)) (fun _ iv _ => r.length - (intOf iv).toNat)
  case atStart => exact ⟨0, rfl, rfl, Nat.zero_le _, Lib.hid (Below.refl _ _)⟩
  case round =>
    obtain ⟨i, rfl, rfl, hi, Bw⟩ := hrel
    by_cases hik : i < r.length
    · have hw1 : IntKind.i64.wrap ((i : Int) + 1) = ((i + 1 : Nat) : Int) := by rw [IntKind.wrap_i64]; omega
      obtain ⟨x, hx, -, hxm⟩ := drop_at hik
      obtain ⟨g, cap, e1, hc⟩ := rent_at (show REnts wr b0 (.slice ad0 r.length cap0) r from Row.on HL.out (bel_on' B2.out Bw.out)) (by omega)
      simp at e1
      obtain ⟨rfl, rfl⟩ := e1
      obtain ⟨c0, c1, c2⟩ := hc i x hx
      have XB := Lib.hid (X2.out.on Bw.out)
      clear hc hx hxm
      go_upto_region 6 with fail
      refine at_code (S := fun w => Below w2.heap.size w2 w) (Below.trans Bw.out (bel_al (Below.refl _ _) _ |>.mono Bw.out.size)) (fun W5 h5 => ?_)
      have B5 := Lib.hid h5
      have x_0 := (X2.out.on B5.out).1 0 _ rfl
      have x_1 := (X2.out.on B5.out).1 1 _ rfl
      clear h5 c0 c1 c2 XB Bw
      go_wp2_with fail
      refine (hC.out W5).mono ?_
      rintro e W6 ⟨rfl, hb⟩
      have B6 := Lib.hid (bel_on' B5.out hb)
      clear hb x_0 x_1 B5
      go_wp2_with fail
      refine ⟨⟨i + 1, rfl, by first | rfl | rw [hw1], by omega, B6⟩, by simp [intOf] <;> omega⟩
    · obtain rfl : i = r.length := by omega
      have BF := Lib.hid (bel_on' B2.out Bw.out)
      clear Bw
      go_wp2
      go_ret
      exact ⟨rfl, BF.out⟩
end Go.Proofs.Ytgcbngephokegaa
