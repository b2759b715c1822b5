/- The document's Size. -/
import Derived.Test.YtgcbngephokegaaP2
import Derived.Test.YtgcbngephokegaaP10
namespace Go.Proofs.Ytgcbngephokegaa
open Go.RowKit Go.Maps Go.MapKept Go.ChangeMaps Go.WideElems Go.Joins
set_option linter.unusedVariables false
set_option linter.unusedSimpArgs false

theorem infoU32 : (Try.prog.info? 23).map (fun i => (i.zero, i.size, i.bytes)) = some (some (.int .u32 0), 1, 4) := by kernel_rfl
def u32s (s : List Nat) : List Value := s.map fun a => .int .u32 (a : Nat)
/-- A row of numbers of the call's own. -/
def Nums (w : World) (base : Nat) (v : Value) (s : List Nat) : Prop := Row w base 23 1 v s.length (u32s s)
theorem nums_at {w : World} {base : Nat} {v : Value} {s : List Nat} (h : Nums w base v s) (hn : 0 < s.length) : ∃ g cap, v = .slice (some ⟨g, 0, none⟩) s.length cap ∧ ∀ k y, s[k]? = some y → w.cell? ⟨g, k, none⟩ = some (.int .u32 (y : Nat)) := by
  obtain ⟨g, cap, e, -, -, h3⟩ := Row.at h hn
  refine ⟨g, cap, e, fun k y hy => h3 k _ ?_⟩
  unfold u32s; rw [List.getElem?_map, hy]; rfl
theorem shr_fst (a s : Nat) (ha : a < 4294967296) : IntKind.u32.wrap ((a : Int) / 2 ^ s) = ((a / 2 ^ s : Nat) : Int) := by
  have e : ((a : Int) / 2 ^ s) = ((a / 2 ^ s : Nat) : Int) := by rw [Int.natCast_ediv, Int.natCast_pow]; rfl
  have hl : a / 2 ^ s < 4294967296 := Nat.lt_of_le_of_lt (Nat.div_le_self _ _) ha
  rw [e, IntKind.wrap_u32]; generalize a / 2 ^ s = m at *; omega
theorem mem_take_succ {s : List Nat} {k y : Nat} (hy : s[k]? = some y) (q : Nat) : decide (q ∈ s.take (k + 1)) = (decide (q ∈ s.take k) || decide (y = q)) := by
  rw [List.take_add_one, hy, Option.toList_some, Bool.eq_iff_iff]
  simp only [decide_eq_true_eq, Bool.or_eq_true, List.mem_append, List.mem_singleton]
  exact or_congr Iff.rfl eq_comm
set_option maxRecDepth 100000 in
set_option maxHeartbeats 4000000 in
theorem rsz_any (W : World) (b0 : Nat) (l : Value) (r : List Ent) (hl : REnts W b0 l r) (hlen : r.length ≤ 10000) (hle : ∀ x ∈ r, x.1.length ≤ 32) :
    Calls Try.prog 15 #[l] W fun e w' => e = .returned (.int .i64 (szL r 32 : Nat)) ∧ Below W.heap.size W w' := by
  have HL := Lib.hid hl
  have HE := Lib.hid hle
  obtain ⟨ad0, cap0, el⟩ := Row.slice hl
  subst el
  clear hl hle
  go_enter Try.func15, Try.ntmps15
  go_wp2_with fail
  go_loopw [3, 4] (fun nv bv wr => ∃ (b : Nat), nv = .int .i64 (szL r (b - 1) : Nat) ∧ bv = .int .i64 (b : Nat) ∧ 1 ≤ b ∧ b ≤ 33 ∧ Hid (Below W.heap.size W wr)) (fun _ bv _ => 33 - (intOf bv).toNat)
  case atStart => exact ⟨1, rfl, rfl, Nat.le_refl _, by omega, Lib.hid (Below.refl _ _)⟩
  case round =>
    obtain ⟨b, rfl, rfl, hb1, hb2, Bo⟩ := hrel
    have hm1 := szL_le r (b - 1)
    have hm2 : (b - 1) * r.length ≤ 32 * r.length := Nat.mul_le_mul_right _ (by omega)
    by_cases hb3 : b < 33
    · have hwb : IntKind.i64.wrap ((b : Int) + 1) = ((b + 1 : Nat) : Int) := by rw [IntKind.wrap_i64]; omega
      have db : decide ((b : Int) ≤ 32) = true := decide_eq_true (by omega)
      have hsb := Lib.hid (show szL r (b + 1 - 1) = szL r (b - 1) + (seen r b).length by
        obtain ⟨c, rfl⟩ : ∃ c, b = c + 1 := ⟨b - 1, by omega⟩
        rfl)
      have hsl := Lib.hid (seen_len r b)
      obtain ⟨m, hm⟩ : ∃ m, szL r (b - 1) = m := ⟨_, rfl⟩
      rw [hm] at hsb hm1 ⊢
      have hm3 : m ≤ 1 + 320000 := by omega
      clear hm hm1 hm2
      go_wp2_with fail
      have R2 : Hid (Nums wr W.heap.size (.slice none 0 0) (seen (r.take 0) b)) := Lib.hid (row_nil _ _ _ _)
      go_loopw [5, 6] (fun sv iv wr => ∃ (i : Nat), iv = .int .i64 (i : Nat) ∧ i ≤ r.length ∧ Hid (Nums wr W.heap.size sv (seen (r.take i) b)) ∧ Hid (Below W.heap.size W wr)) (fun _ iv _ => r.length - (intOf iv).toNat)
      case atStart => exact ⟨0, rfl, Nat.zero_le _, R2, Bo⟩
      case round =>
        obtain ⟨i, rfl, hi, Rw, Bw⟩ := hrel
        clear R2 Bo
        by_cases hik : i < r.length
        · have hw1 : IntKind.i64.wrap ((i : Int) + 1) = ((i + 1 : Nat) : Int) := by rw [IntKind.wrap_i64]; omega
          obtain ⟨x, hx, -, hxm⟩ := drop_at hik
          have hsn := seen_snoc r b i x hx
          unfold seenF fst at hsn
          have hxl := HE.out x hxm
          have hxa := ad_lt x.1 hxl
          obtain ⟨g, cap, e1, hc⟩ := rent_at (show REnts wr b0 (.slice ad0 r.length cap0) r from Row.on HL.out Bw.out) (by omega)
          simp at e1
          obtain ⟨rfl, rfl⟩ := e1
          obtain ⟨c0, c1, -⟩ := hc i x hx
          have hSl : (seen (r.take i) b).length ≤ 10000 := by have := seen_len (r.take i) b; rw [List.length_take] at this; omega
          obtain ⟨S, hS⟩ : ∃ S, seen (r.take i) b = S := ⟨_, rfl⟩
          rw [hS] at hsn Rw hSl
          obtain ⟨a, ha⟩ : ∃ a, ad x.1 = a := ⟨_, rfl⟩
          obtain ⟨n, hn⟩ : ∃ n, x.1.length = n := ⟨_, rfl⟩
          rw [ha] at hsn c0 hxa
          rw [hn] at hsn c1 hxl
          clear hc hx hxm hS ha hn
          by_cases hnb : n < b
          · rw [if_pos hnb] at hsn
            have dn : decide ((n : Int) < (b : Int)) = true := decide_eq_true (by omega)
            have RX : Hid (Nums wr W.heap.size u5 (seen (r.take (i + 1)) b)) := Lib.hid (by rw [hsn]; exact Rw.out)
            clear Rw
            go_wp2_with fail
            refine ⟨⟨i + 1, by first | rfl | rw [hw1], by omega, RX, Bw⟩, by simp [intOf] <;> omega⟩
          · rw [if_neg hnb] at hsn
            have dn : decide ((n : Int) < (b : Int)) = false := decide_eq_false (by omega)
            have hws : IntKind.i64.wrap (32 - (b : Int)) = ((32 - b : Nat) : Int) := by rw [IntKind.wrap_i64]; omega
            have hq := shr_fst a (32 - b) hxa
            have hsz : sz b = 2 ^ (32 - b) := rfl
            rw [hsz] at hsn
            obtain ⟨s, hs⟩ : ∃ s, 32 - b = s := ⟨_, rfl⟩
            have hs2 : s < 32 := by omega
            rw [hs] at hws hq hsn
            have hql : a / 2 ^ s < 4294967296 := Nat.lt_of_le_of_lt (Nat.div_le_self _ _) hxa
            obtain ⟨q, hqq⟩ : ∃ q, a / 2 ^ s = q := ⟨_, rfl⟩
            rw [hqq] at hq hsn hql
            have HQ := Lib.hid hqq
            have HSN := Lib.hid hsn
            obtain ⟨ads, caps, es⟩ := Row.slice Rw.out
            subst es
            obtain ⟨nS, hnS⟩ : ∃ n, S.length = n := ⟨_, rfl⟩
            have HNS := Lib.hid hnS
            rw [hnS] at hSl
            rw [hnS] at Rw ⊢
            clear hnS hs hqq hsn hsz
            go_wp2_with fail
            have RS : Hid (Nums wr W.heap.size (.slice ads nS caps) S) := Rw
            clear Rw
            go_loopw [8, 9] (fun tv kv wr => ∃ (k : Nat), tv = .bool (decide (q ∈ S.take k)) ∧ kv = .int .i64 (k : Nat) ∧ k ≤ nS ∧ Hid (Nums wr W.heap.size (.slice ads nS caps) S) ∧ Hid (Below W.heap.size W wr)) (fun _ kv _ => nS - (intOf kv).toNat)
            case atStart => exact ⟨0, by simp, rfl, Nat.zero_le _, RS, Bw⟩
            case round =>
              obtain ⟨k, rfl, rfl, hk, Rk, Bk⟩ := hrel
              clear RS Bw
              by_cases hkn : k < nS
              · have hwk : IntKind.i64.wrap ((k : Int) + 1) = ((k + 1 : Nat) : Int) := by rw [IntKind.wrap_i64]; omega
                obtain ⟨y, hy⟩ : ∃ y, S[k]? = some y := ⟨_, List.getElem?_eq_getElem (by rw [HNS.out]; exact hkn)⟩
                obtain ⟨gs, caps', es, hcs⟩ := nums_at Rk.out (by rw [HNS.out]; omega)
                simp at es
                obtain ⟨rfl, -, rfl⟩ := es
                have cy := hcs k y hy
                have HT := Lib.hid (mem_take_succ hy q)
                obtain ⟨t, ht⟩ : ∃ t, decide (q ∈ S.take k) = t := ⟨_, rfl⟩
                rw [ht] at HT ⊢
                clear hcs hy ht
                cases t with
                | true =>
                  have HT2 := Lib.hid (show decide (q ∈ S.take (k + 1)) = true by rw [HT.out]; rfl)
                  clear HT
                  go_wp2_with fail
                  refine ⟨⟨k + 1, by rw [HT2.out], by first | rfl | rw [hwk], by omega, Rk, Bk⟩, by simp [intOf] <;> omega⟩
                | false =>
                  have HT2 := Lib.hid (show decide (q ∈ S.take (k + 1)) = decide (y = q) by rw [HT.out]; rfl)
                  have hyq : ((y : Int) == (q : Int)) = decide (y = q) := by rw [Bool.eq_iff_iff]; simp; omega
                  clear HT
                  go_wp2_with fail
                  refine ⟨⟨k + 1, by rw [HT2.out], by first | rfl | rw [hwk], by omega, Rk, Bk⟩, by simp [intOf] <;> omega⟩
              · obtain rfl : k = nS := by omega
                have et : S.take k = S := List.take_of_length_le (by rw [HNS.out]; exact Nat.le_refl _)
                rw [et]
                clear et
                by_cases hqS : q ∈ S
                · rw [if_pos hqS] at HSN
                  have dq : decide (q ∈ S) = true := decide_eq_true hqS
                  rw [dq]
                  have RX : Hid (Nums wr W.heap.size (.slice ads k caps) (seen (r.take (i + 1)) b)) := Lib.hid (by rw [HSN.out]; exact Rk.out)
                  clear hqS dq Rk
                  go_wp2_with fail
                  refine ⟨⟨i + 1, by first | rfl | rw [hw1], by omega, RX, Bk⟩, by simp [intOf] <;> omega⟩
                · rw [if_neg hqS] at HSN
                  have dq : decide (q ∈ S) = false := decide_eq_false hqS
                  rw [dq]
                  clear hqS dq
                  go_upto_region 17 with fail
                  obtain ⟨cY, hcY⟩ : ∃ c, u32s S = c := ⟨_, rfl⟩
                  have hown := Rk.out.1
                  rw [HNS.out, hcY] at hown
                  have HCY := Lib.hid hcY
                  clear hcY
                  obtain ⟨i0, hi0, hz0, hz1, hz2⟩ := hinfo_parts infoU32
                  have hsz := Bk.out.size
                  go_wp2_with (at_builtin; refine wpList_append_own _ rfl _ _ 95 rfl W.heap.size 23 i0 (.int .u32 0) 1 4 Try.underlying95 hi0 hz0 hz1 hz2 rfl (by decide) _ _ _ rfl (hown.alloc _) ⟨wr.heap.size, 0, none⟩ 1 1 [.int .u32 (q : Nat)] rfl rfl ?c1 ?c2 ?c3 ?c4 ?c5 ?_)
                  case c1 => exact fun j y hj => by rw [add_plain, Nat.zero_add]; exact (Blk.new wr 23 [.int .u32 (q : Nat)]).1 j y hj
                  case c2 => intro x hx; simp at hx; rcases hx with rfl; rfl
                  case c3 => unfold maxLen; omega
                  case c4 => omega
                  case c5 => simp; omega
                  · intro v' w5 hown' hgrow hnl
                    have RX : Hid (Nums w5 W.heap.size v' (seen (r.take (i + 1)) b)) := Lib.hid (by
                      unfold Nums
                      rw [HSN.out, List.length_append, HNS.out, show u32s (S ++ [q]) = u32s S ++ [.int .u32 (q : Nat)] by simp [u32s], HCY.out]
                      exact ⟨hown', ⟨fun e => absurd e hnl, fun e => (by simp at e)⟩⟩)
                    have BX : Hid (Below W.heap.size W w5) := Lib.hid ((Bk.out.alloc hsz _).grown hgrow (by simp; omega) (fun g e => (World.ownsRow.lt hown g e).1))
                    clear hown' hgrow hnl hown Rk Bk hi0 hz0 hz1 hz2 hsz
                    go_wp2_with fail
                    refine ⟨⟨i + 1, by first | rfl | rw [hw1], by omega, RX, BX⟩, by simp [intOf] <;> omega⟩
        · obtain rfl : i = r.length := by omega
          have et := List.take_of_length_le (Nat.le_refl r.length)
          have RX : Hid (Nums wr W.heap.size _ (seen r b)) := Lib.hid (by have := Rw.out; rw [et] at this; exact this)
          obtain ⟨ads, caps, es⟩ := Row.slice RX.out
          subst es
          obtain ⟨nS, hnS⟩ : ∃ n, (seen r b).length = n := ⟨_, rfl⟩
          rw [hnS] at hsb hsl RX ⊢
          have hs2 := hsl.out
          have hwm : IntKind.i64.wrap ((m : Int) + (nS : Int)) = ((m + nS : Nat) : Int) := by rw [IntKind.wrap_i64]; omega
          clear Rw et RX hnS hs2
          go_wp2_with fail
          refine ⟨?_, ?_⟩
          · exact ⟨b + 1, by rw [hsb.out]; first | rfl | (congr 1), by first | rfl | rw [hwb], by omega, by omega, Bw⟩
          · simp [intOf] <;> omega
    · obtain rfl : b = 33 := by omega
      go_wp2
      go_ret
      exact ⟨rfl, Bo.out⟩
end Go.Proofs.Ytgcbngephokegaa
