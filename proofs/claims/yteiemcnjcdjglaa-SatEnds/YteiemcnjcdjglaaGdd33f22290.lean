/- Texts joined, in their order: HF, SE, TE, RE. -/
import Derived.Test.YteiemcnjcdjglaaG078402af24
import Derived.Test.YteiemcnjcdjglaaG6cff558f04
import Derived.ProofKit
import Derived.OpenShut
import Derived.Lib.SmallJoins
import Derived.LaidMore
import Derived.Stop.Joined
import Derived.Test.YteiemcnjcdjglaaG402e4c2e9c
import Derived.Test.YteiemcnjcdjglaaG7d8162db53
/- How a header that is handed in reads, and reads again. -/
namespace Go.Proofs.Yteiemcnjcdjglaa
open Go.ChangeShapes Go.WideShapes Go.ChangeAt Go.RowKit Go.Joins Go.Deep Go.WideElems Go.Maps

theorem array5 {α : Type} {cs : Array α} (h : cs.size = 5) : ∃ c0 c1 c2 c3 c4, cs = #[c0, c1, c2, c3, c4] := by
  obtain ⟨l⟩ := cs
  match l, h with
  | [c0, c1, c2, c3, c4], _ => exact ⟨c0, c1, c2, c3, c4, rfl⟩
section
variable {H : Type} {enc : TypeId × Value → H} {P : Program} {w : World} {base : Nat} {spare : Nat → Bool} {held : Bool}
theorem open_agg5 {r : Reach} {b0 : Nat} {t : TypeId} {f0 f1 f2 f3 f4 : Field} {v : Value} {d : DataW H} {p : List MemPlace} (hs : P.underlying t = some (.struct #[f0, f1, f2, f3, f4])) (hone : oneCellFields P #[f0, f1, f2, f3, f4] = true) (hC : P.cellsOf t = 5)
    (hv : Value.okWide P w r b0 t v) (h : DataW.Trod enc P w base spare held t v d p) :
    ∃ (v0 v1 v2 v3 v4 : Value) (y0 y1 y2 y3 y4 : DataW H × List MemPlace) (n : Nat), v = .agg #[v0, v1, v2, v3, v4] ∧ d = .agg [y0.1, y1.1, y2.1, y3.1, y4.1] ∧ p = y0.2 ++ (y1.2 ++ (y2.2 ++ (y3.2 ++ y4.2))) ∧
      DataW.trod enc P w base spare held n f0.type [v0] = some y0 ∧ DataW.trod enc P w base spare held n f1.type [v1] = some y1 ∧ DataW.trod enc P w base spare held n f2.type [v2] = some y2 ∧ DataW.trod enc P w base spare held n f3.type [v3] = some y3 ∧ DataW.trod enc P w base spare held n f4.type [v4] = some y4 := by
  obtain ⟨cs, rfl, hsz⟩ := okWide_struct hs hv
  obtain ⟨c0, c1, c2, c3, c4, rfl⟩ := array5 (hsz.trans hC)
  obtain ⟨fuel, hf⟩ := h
  obtain ⟨xs, n, _, hx, hl, hlen, hf⟩ := DataW.trod_struct hs hf
  obtain ⟨o0, k0⟩ := hone_of hone 0 f0 rfl
  obtain ⟨o1, k1⟩ := hone_of hone 1 f1 rfl
  obtain ⟨o2, k2⟩ := hone_of hone 2 f2 rfl
  obtain ⟨o3, k3⟩ := hone_of hone 3 f3 rfl
  obtain ⟨o4, k4⟩ := hone_of hone 4 f4 rfl
  match xs, hlen, hx, hf with
  | [y0, y1, y2, y3, y4], _, hx, hf =>
    simp at hx
    exact ⟨c0, c1, c2, c3, c4, y0, y1, y2, y3, y4, n, rfl, hx.1, hx.2, by simpa [Value.cells, o0, k0] using hf 0 f0 rfl, by simpa [Value.cells, o1, k1] using hf 1 f1 rfl, by simpa [Value.cells, o2, k2] using hf 2 f2 rfl, by simpa [Value.cells, o3, k3] using hf 3 f3 rfl, by simpa [Value.cells, o4, k4] using hf 4 f4 rfl⟩
theorem shut_agg5 {t : TypeId} {f0 f1 f2 f3 f4 : Field} {v0 v1 v2 v3 v4 : Value} {n : Nat} {y0 y1 y2 y3 y4 : DataW H × List MemPlace} (hs : P.underlying t = some (.struct #[f0, f1, f2, f3, f4])) (hone : oneCellFields P #[f0, f1, f2, f3, f4] = true) (hC : P.cellsOf t = 5)
    (t0 : DataW.trod enc P w base spare held n f0.type [v0] = some y0) (t1 : DataW.trod enc P w base spare held n f1.type [v1] = some y1) (t2 : DataW.trod enc P w base spare held n f2.type [v2] = some y2) (t3 : DataW.trod enc P w base spare held n f3.type [v3] = some y3) (t4 : DataW.trod enc P w base spare held n f4.type [v4] = some y4) :
    DataW.Trod enc P w base spare held t (.agg #[v0, v1, v2, v3, v4]) (.agg [y0.1, y1.1, y2.1, y3.1, y4.1]) (y0.2 ++ (y1.2 ++ (y2.2 ++ (y3.2 ++ y4.2)))) := by
  obtain ⟨o0, k0⟩ := hone_of hone 0 f0 rfl
  obtain ⟨o1, k1⟩ := hone_of hone 1 f1 rfl
  obtain ⟨o2, k2⟩ := hone_of hone 2 f2 rfl
  obtain ⟨o3, k3⟩ := hone_of hone 3 f3 rfl
  obtain ⟨o4, k4⟩ := hone_of hone 4 f4 rfl
  have ts := trod_struct_mk (enc := enc) (w := w) (base := base) (spare := spare) (held := held) (n := n) (cs := [v0, v1, v2, v3, v4]) (xs := [y0, y1, y2, y3, y4]) hs (by simp [hC]) (by simp [o0, k0, o1, k1, o2, k2, o3, k3, o4, k4, t0, t1, t2, t3, t4])
  exact ⟨n + 1, by simpa [Value.cells] using ts⟩
end
theorem cellsHdr : Try.prog.cellsOf 44 = 5 := by kernel_rfl
set_option maxRecDepth 100000 in
theorem hdr_five {H : Type} {enc : TypeId × Value → H} {W : World} {base : Nat} {v : Value} {d : DataW H} {p : List MemPlace}
    (hv0 : Value.okWide Try.prog W .any base 44 v) (h : DataW.Trod enc Try.prog W 0 (fun _ => true) true 44 v d p) :
    ∃ x0 x1 x2 x3 x4 : Nat, x0 < 4294967296 ∧ x1 < 4294967296 ∧ x2 < 256 ∧ x3 < 65536 ∧ x4 < 65536 ∧ v = hv x0 x1 x2 x3 x4 ∧ p = [] ∧ ∀ (W' : World) (sp : Nat → Bool), DataW.Trod enc Try.prog W' 0 sp true 44 v d [] := by
  obtain ⟨c0, c1, c2, c3, c4, y0, y1, y2, y3, y4, m, rfl, rfl, rfl, g0, g1, g2, g3, g4⟩ := open_agg5 Try.underlying44 (by kernel_rfl) cellsHdr hv0 h
  obtain ⟨x0, e0, rfl, w0⟩ := DataW.trod_int Try.underlying41 g0
  obtain ⟨x1, e1, rfl, w1⟩ := DataW.trod_int Try.underlying41 g1
  obtain ⟨x2, e2, rfl, w2⟩ := DataW.trod_int Try.underlying5 g2
  obtain ⟨x3, e3, rfl, w3⟩ := DataW.trod_int Try.underlying42 g3
  obtain ⟨x4, e4, rfl, w4⟩ := DataW.trod_int Try.underlying42 g4
  simp at e0 e1 e2 e3 e4
  subst e0 e1 e2 e3 e4
  obtain ⟨l0, u0⟩ := bounds_u32 w0
  obtain ⟨l1, u1⟩ := bounds_u32 w1
  obtain ⟨l2, u2⟩ := bounds_u8 w2
  obtain ⟨l3, u3⟩ := bounds_u16 w3
  obtain ⟨l4, u4⟩ := bounds_u16 w4
  obtain ⟨x0, rfl⟩ := Int.eq_ofNat_of_zero_le l0
  obtain ⟨x1, rfl⟩ := Int.eq_ofNat_of_zero_le l1
  obtain ⟨x2, rfl⟩ := Int.eq_ofNat_of_zero_le l2
  obtain ⟨x3, rfl⟩ := Int.eq_ofNat_of_zero_le l3
  obtain ⟨x4, rfl⟩ := Int.eq_ofNat_of_zero_le l4
  refine ⟨x0, x1, x2, x3, x4, by omega, by omega, by omega, by omega, by omega, rfl, rfl, fun W' sp => ?_⟩
  exact shut_agg5 (n := 1) (y0 := (.lit (.int .u32 x0), [])) (y1 := (.lit (.int .u32 x1), [])) (y2 := (.lit (.int .u8 x2), [])) (y3 := (.lit (.int .u16 x3), [])) (y4 := (.lit (.int .u16 x4), [])) Try.underlying44 (by kernel_rfl) cellsHdr
    (by simp [DataW.trod, Try.underlying41, w0]) (by simp [DataW.trod, Try.underlying41, w1]) (by simp [DataW.trod, Try.underlying5, w2]) (by simp [DataW.trod, Try.underlying42, w3]) (by simp [DataW.trod, Try.underlying42, w4])
end Go.Proofs.Yteiemcnjcdjglaa
/- Headers in order, by their bits: for SatEnds, SatSteps. -/
namespace Go.Proofs.Yteiemcnjcdjglaa
open Go.RowKit Hw
set_option linter.unusedVariables false
set_option linter.unusedSimpArgs false

theorem first_le {a b a' b' : Nat} (h : ∀ j : Nat, j < 104 → (∀ k : Nat, k < j → tb a b k = tb a' b' k) → tb a b j ≠ tb a' b' j → tb a b j = false) : ∀ k, k ≤ 104 → (firstc a b a' b' k = 0 → ∀ i : Nat, i < k → tb a b i = tb a' b' i) ∧ firstc a b a' b' k ≤ 0
  | 0, _ => ⟨fun _ i hi => absurd hi (by omega), Int.le_refl _⟩
  | k + 1, hk => by
    obtain ⟨h1, h2⟩ := first_le h k (by omega)
    unfold firstc
    by_cases e : firstc a b a' b' k = 0
    · rw [if_pos e]
      have hb := h1 e
      by_cases q : tb a b k = tb a' b' k
      · rw [if_pos q]
        refine ⟨fun _ i hi => ?_, Int.le_refl _⟩
        rcases Nat.lt_or_ge i k with r | r
        · exact hb i r
        · have : i = k := by omega
          subst this; exact q
      · rw [if_neg q]
        have h3 := h k (by omega) hb q
        have h4 : tb a' b' k = true := by
          rw [h3] at q
          cases z : tb a' b' k
          · exact absurd z.symm q
          · rfl
        rw [h4]
        simp
    · rw [if_neg e]
      exact ⟨fun q => absurd q e, h2⟩
theorem cmp_le {a b a' b' : Nat} (hw : WB a b) (hw' : WB a' b') (h : ∀ j, j < 104 → (∀ k, k < j → tE a b k = tE a' b' k) → tE a b j ≠ tE a' b' j → tE a b j = false) : cmpW a b a' b' ≤ 0 := by
  have := (first_le (a := a) (b := b) (a' := a') (b' := b') (fun j hj hk hn => h j hj hk hn) 104 (Nat.le_refl _)).2
  rw [firstc_all a b a' b' hw hw'] at this
  exact this
theorem hw_hv {d s q x y : Nat} (hd : d < 4294967296) (hs : s < 4294967296) (hq : q < 256) (hx : x < 65536) (hy : y < 65536) : ∃ a b, WB a b ∧ hw a b = hv d s q x y := by
  refine ⟨d * 4294967296 + s, q * 4294967296 + x * 65536 + y, ⟨by omega, by omega⟩, ?_⟩
  unfold hw fd fs fx fy
  rw [show (d * 4294967296 + s) / 4294967296 = d by omega, show (d * 4294967296 + s) % 4294967296 = s by omega, show (q * 4294967296 + x * 65536 + y) / 4294967296 = q by omega, show (q * 4294967296 + x * 65536 + y) / 65536 % 65536 = x by omega, show (q * 4294967296 + x * 65536 + y) % 65536 = y by omega]
theorem hw_zero : hw 0 0 = hv 0 0 0 0 0 := rfl
section
variable {Z : Nat → Prop} {p most : Nat} {W : World} {ns : List Nd}
theorem sIn_w (h : Sta Z p W most ns) (f a b : Nat) (hw' : WB a b) (hf : f < ns.length) : Calls Try.prog 24 #[.pointer (some ⟨p, 0, none⟩), .int .i64 (f : Nat), hw a b] W fun e w' => e = .returned (.bool (ev ns (tE a b) f)) ∧ Below W.heap.size W w' := by
  have := sIn h f _ _ _ _ _ hw'.hb hf
  rw [tE_hE] at this
  exact this
end
/-- The words of the least, and of the greatest header. -/
structure Utm (ns : List Nd) (on : Bool) (f a b : Nat) : Prop where
  wb : WB a b
  mem : ev ns (tE a b) f = true
  far : ∀ e, ev ns e f = true → ∀ j, j < 104 → (∀ k, k < j → e k = tE a b k) → e j ≠ tE a b j → tE a b j = on ∧ e j = !on
theorem utm_of {ns : List Nd} (h : WF ns) (on : Bool) {f : Nat} (hf : f < ns.length) (h0 : f ≠ 0) : Utm ns on f (uW ns on f 104).1 (uW ns on f 104).2 := by
  obtain ⟨h1, h2⟩ := uW_ok ns on f 104 (Nat.le_refl _)
  obtain ⟨h3, h4⟩ := ut_end h on hf h0
  exact ⟨h1, by rw [h2]; exact h3, by rw [h2]; exact h4⟩
theorem Utm.least {ns : List Nd} {f a b a' b' : Nat} (h : Utm ns false f a b) (hw' : WB a' b') (hm : ev ns (tE a' b') f = true) : cmpW a b a' b' ≤ 0 :=
  cmp_le h.wb hw' (fun j hj hk hn => (h.far _ hm j hj (fun k q => (hk k q).symm) (fun e => hn e.symm)).1)
theorem Utm.most {ns : List Nd} {f a b a' b' : Nat} (h : Utm ns true f a b) (hw' : WB a' b') (hm : ev ns (tE a' b') f = true) : cmpW a' b' a b ≤ 0 :=
  cmp_le hw' h.wb (fun j hj hk hn => (h.far _ hm j hj hk hn).2)
theorem bits_len (a b : Nat) (h : WB a b) (w : World) : Calls Try.prog 26 #[hw a b] w fun e w' => (∃ g cap, e = .returned (.slice (some ⟨g, 0, none⟩) 104 cap)) ∧ Below w.heap.size w w' := by
  refine (bits_any a b h w).mono ?_
  rintro e w' ⟨v, rfl, hb, hr⟩
  rcases hr.2 with ⟨e, q⟩ | ⟨g, cap, cur, e, -⟩
  · omega
  · exact ⟨⟨g, cap, by rw [e]⟩, hb⟩
end Go.Proofs.Yteiemcnjcdjglaa
/- SatEnds's walk (typed by gen/mkst.py). -/
namespace Go.Proofs.Yteiemcnjcdjglaa
open Go.RowKit Wd Hw
set_option linter.unusedVariables false
set_option linter.unusedSimpArgs false

set_option maxRecDepth 100000 in
set_option maxHeartbeats 8000000 in
theorem sends_any (L : List Ex) (la : Option Addr) (lc : Nat) (a3 b3 : Nat) (hw3 : WB a3 b3) (W : World) (hL : Rw W la (L.flatMap Ex.cells)) (hlen : L.length ≤ maxLen) (hrng : ∀ x ∈ L, -9223372036854775808 ≤ x.v ∧ x.v ≤ 9223372036854775807) :
    Calls Try.prog 5 #[.slice la L.length lc, hw a3 b3] W fun e w' => e = .returned (.bool true) ∧ Below W.heap.size W w' := by
  have CA := Lib.hid (fun w => sawake_any w)
  have CN := Lib.hid (fun w => sNew 262144 (by omega) (by omega) w)
  have CM := Lib.hid (fun (Z : Nat → Prop) (p : Nat) (w : World) (h : Sta Z p w 262144 [bot, top]) (hr : Rw w la (L.flatMap Ex.cells)) (hZ : ∀ b off, la = some ⟨b, off, none⟩ → 0 < L.length → Z b) (lt : Lt L) => make_big (lc := lc) h hr hZ lt)
  have CL := Lib.hid (fun (w : World) (hb : Below W.heap.size W w) => light_any L la lc w (hL.on hb) hlen hrng)
  have HL0 := Lib.hid hL
  obtain ⟨n, hn⟩ : ∃ n, L.length = n := ⟨_, rfl⟩
  rw [hn] at CL CM hlen ⊢
  have HN := Lib.hid hn
  clear hn hL hrng
  go_enter Try.func5, Try.ntmps5
  go_upto_region 1 with fail
  refine at_code (S := fun w => Blk w W.heap.size [.int .u32 (fd (a3) : Nat), .int .u32 (fs (a3) : Nat), .int .u8 (fd (b3) : Nat), .int .u16 (fx (b3) : Nat), .int .u16 (fy (b3) : Nat)] ∧ Below W.heap.size W w) ⟨Blk.new _ _ _, bel_al (Below.refl _ _) _⟩ (fun W0 hW => ?_)
  obtain ⟨hX, hb⟩ := hW
  have H0 := Lib.hid hX
  have B0 := Lib.hid hb
  have HW3 := Lib.hid hw3
  clear hX hb hw3
  go_wp2_with fail
  refine (CL.out W0 B0.out).mono ?_
  rintro e w1 ⟨r, rfl, hr, hb⟩
  have B1 := Lib.hid (bel_on' B0.out hb)
  have H1 := Lib.hid (H0.out.on hb)
  clear hb CL
  cases r with
  | false =>
    clear hr
    go_wp2_with fail
    refine (CA.out _).mono ?_
    rintro e w2 ⟨rfl, hb⟩
    have B2 := Lib.hid (bel_on' B1.out hb)
    clear hb
    go_wp2
    go_ret
    exact ⟨rfl, B2.out⟩
  | true =>
    have LT := Lib.hid (hr rfl)
    clear hr
    clear H0 B0
    have h60 : n ≤ 60 := by rw [← HN.out]; exact LT.out.len
    by_cases hfew : n < 1
    · have hfew' : (n : Int) = 0 := by omega
      go_wp2_with fail
      refine (CA.out _).mono ?_
      rintro e w2 ⟨rfl, hb⟩
      have B2 := Lib.hid (bel_on' B1.out hb)
      clear hb
      go_wp2
      go_ret
      exact ⟨rfl, B2.out⟩
    · have hfew' : ((n : Int) == 0) = false := by first | omega | (rw [beq_eq_false_iff_ne]; omega)
      go_wp2_with fail
      refine (CN.out _).mono ?_
      rintro e w2 ⟨p, rfl, hS, hb⟩
      have S2 := Lib.hid hS
      have B2 := Lib.hid (bel_on' B1.out hb)
      have H2 := Lib.hid (H1.out.on hb)
      clear hS CN
      have CM2 := Lib.hid (CM.out _ p w2 S2.out (HL0.out.on B2.out) (fun b off e hl => by show b < w1.heap.size; have := rw_z HL0.out b off e (by rw [HN.out]; exact hl); have := B1.out.size; omega) LT.out)
      clear CM S2
      go_wp2_with fail
      refine CM2.out.mono ?_
      rintro e w3 ⟨v, o, B, ns, rfl, hS, hH, hR, hF⟩
      have hon : o.length = n := by rw [hF.len]; exact HN.out
      obtain ⟨g, cap, hv, hg⟩ := row_form hR (by omega)
      rw [hon] at hg hv
      have B3 := Lib.hid (B2.out.trans (hH.below B2.out.size (fun k hk => by show k < w1.heap.size; have := B1.out.size; omega)))
      obtain ⟨Z, hZ⟩ : ∃ Z, Zv (fun k => k < w1.heap.size) v = Z := ⟨_, rfl⟩
      have hzl : ∀ k, k < w1.heap.size → Z k := by rw [← hZ]; exact Zv_lt (fun k hk => hk)
      have hzg : Z g := by rw [← hZ, hv]; exact Or.inr rfl
      have H3 := Lib.hid (hH.blk (show (fun k => k < w1.heap.size) W.heap.size from H1.out.lt) H2.out)
      clear H2
      rw [hZ] at hS
      have HZL := Lib.hid (And.intro hzl hzg)
      have HF := Lib.hid hF
      have HG := Lib.hid hg
      have S3 := Lib.hid hS
      have WN := Lib.hid hS.wf
      subst hv
      clear CM2 hR hZ hzl hzg hH hF hg hS hon hb B2
      obtain ⟨m, hm⟩ : ∃ m, n = m + 1 := ⟨n - 1, by omega⟩
      have hw1 : IntKind.i64.wrap ((n : Int) - 1) = ((m : Nat) : Int) := by rw [IntKind.wrap_i64]; omega
      have hmn : m < n := by omega
      have Ff := Lib.hid (HF.out.at_ (i := m) (by rw [HN.out]; exact hmn))
      have g_1 := HG.out m hmn
      obtain ⟨f, hf⟩ : ∃ f, o.getD m 0 = f := ⟨_, rfl⟩
      rw [hf] at Ff g_1
      have LF := Lib.hid (show f < ns.length from Ff.out.1)
      clear hf HF HG hm Ff H1 B1
      by_cases f0 : f = 0
      · subst f0
        go_wp2_with fail
        refine ((show Calls Try.prog 15 #[.pointer (some ⟨p, 0, none⟩), .int .i64 0] w3 fun e w' => e = .returned (.tuple #[hv 0 0 0 0 0, .bool false]) ∧ Below w3.heap.size w3 w' from sLeast_none S3.out 0 (fun _ => rfl))).mono ?_
        rintro e w4 ⟨rfl, hb⟩
        have S4 := Lib.hid (S3.out.on hb)
        have B4 := Lib.hid (bel_on' B3.out hb)
        have H4 := Lib.hid (H3.out.on hb)
        clear g_1
        clear hb S3 B3 H3
        go_upto_region 11 with fail
        refine at_code (S := fun w => Blk w w4.heap.size [.int .u32 0, .int .u32 0, .int .u8 0, .int .u16 0, .int .u16 0] ∧ Below w4.heap.size w4 w) ⟨Blk.new _ _ _, bel_al (Below.refl _ _) _⟩ (fun w5 hW => ?_)
        obtain ⟨hX, hb⟩ := hW
        have X5 := Lib.hid hX
        have S5 := Lib.hid (S4.out.on hb)
        have B5 := Lib.hid (bel_on' B4.out hb)
        have H5 := Lib.hid (H4.out.on hb)
        clear hX hb S4 B4 H4
        go_wp2_with fail
        refine ((show Calls Try.prog 23 #[.pointer (some ⟨p, 0, none⟩), .int .i64 0] w5 fun e w' => e = .returned (.tuple #[hv 0 0 0 0 0, .bool false]) ∧ Below w5.heap.size w5 w' from sMost_none S5.out 0 (fun _ => rfl))).mono ?_
        rintro e w6 ⟨rfl, hb⟩
        have S6 := Lib.hid (S5.out.on hb)
        have B6 := Lib.hid (bel_on' B5.out hb)
        have H6 := Lib.hid (H5.out.on hb)
        have X6 := Lib.hid (X5.out.on hb)
        clear hb S5 B5 H5 X5
        go_upto_region 12 with fail
        refine at_code (S := fun w => Blk w w6.heap.size [.int .u32 0, .int .u32 0, .int .u8 0, .int .u16 0, .int .u16 0] ∧ Below w6.heap.size w6 w) ⟨Blk.new _ _ _, bel_al (Below.refl _ _) _⟩ (fun w7 hW => ?_)
        obtain ⟨hX, hb⟩ := hW
        have Y7 := Lib.hid hX
        have S7 := Lib.hid (S6.out.on hb)
        have B7 := Lib.hid (bel_on' B6.out hb)
        have H7 := Lib.hid (H6.out.on hb)
        have X7 := Lib.hid (X6.out.on hb)
        clear hX hb S6 B6 H6 X6
        go_wp2_with fail
        refine (CA.out w7).mono ?_
        rintro e w8 ⟨rfl, hb⟩
        have S8 := Lib.hid (S7.out.on hb)
        have B8 := Lib.hid (bel_on' B7.out hb)
        have H8 := Lib.hid (H7.out.on hb)
        have X8 := Lib.hid (X7.out.on hb)
        have Y8 := Lib.hid (Y7.out.on hb)
        clear hb S7 B7 H7 X7 Y7
        have CI := Lib.hid (sIn_w S8.out 0 a3 b3 HW3.out LF.out)
        rw [ev_zero] at CI
        obtain ⟨h_0, h_1, h_2, h_3, h_4⟩ : _ ∧ _ ∧ _ ∧ _ ∧ _ := ⟨H8.out.1 0 _ rfl, H8.out.1 1 _ rfl, H8.out.1 2 _ rfl, H8.out.1 3 _ rfl, H8.out.1 4 _ rfl⟩
        obtain ⟨x_0, x_1, x_2, x_3, x_4⟩ : _ ∧ _ ∧ _ ∧ _ ∧ _ := ⟨X8.out.1 0 _ rfl, X8.out.1 1 _ rfl, X8.out.1 2 _ rfl, X8.out.1 3 _ rfl, X8.out.1 4 _ rfl⟩
        obtain ⟨y_0, y_1, y_2, y_3, y_4⟩ : _ ∧ _ ∧ _ ∧ _ ∧ _ := ⟨Y8.out.1 0 _ rfl, Y8.out.1 1 _ rfl, Y8.out.1 2 _ rfl, Y8.out.1 3 _ rfl, Y8.out.1 4 _ rfl⟩
        go_wp2_with fail
        refine (CI.out).mono ?_
        rintro e w9 ⟨rfl, hb⟩
        have S9 := Lib.hid (S8.out.on hb)
        have B9 := Lib.hid (bel_on' B8.out hb)
        have H9 := Lib.hid (H8.out.on hb)
        have X9 := Lib.hid (X8.out.on hb)
        have Y9 := Lib.hid (Y8.out.on hb)
        clear hb S8 B8 H8 X8 Y8
        clear h_0 h_1 h_2 h_3 h_4 x_0 x_1 x_2 x_3 x_4 y_0 y_1 y_2 y_3 y_4
        go_wp2
        go_ret
        exact ⟨rfl, B9.out⟩
      · have f0' : ((f : Int) == 0) = false := beq_eq_false_iff_ne.2 (by omega)
        have f0i : ¬ (f : Int) = 0 := by omega
        have f0n : ((f : Int) != 0) = true := by simp; omega
        have U1 := Lib.hid (utm_of WN.out false LF.out f0)
        have U2 := Lib.hid (utm_of WN.out true LF.out f0)
        have CLe := Lib.hid (fun w (h : Sta Z p w 262144 ns) => sLeast h f LF.out f0)
        have CMo := Lib.hid (fun w (h : Sta Z p w 262144 ns) => sMost h f LF.out f0)
        obtain ⟨a1, ha1⟩ : ∃ x, (uW ns false f 104).1 = x := ⟨_, rfl⟩
        obtain ⟨b1, hb1⟩ : ∃ x, (uW ns false f 104).2 = x := ⟨_, rfl⟩
        obtain ⟨a2, ha2⟩ : ∃ x, (uW ns true f 104).1 = x := ⟨_, rfl⟩
        obtain ⟨b2, hb2⟩ : ∃ x, (uW ns true f 104).2 = x := ⟨_, rfl⟩
        rw [ha1, hb1] at U1 CLe
        rw [ha2, hb2] at U2 CMo
        clear ha1 hb1 ha2 hb2
        have I1 := Lib.hid (fun w (h : Sta Z p w 262144 ns) => sIn_w h f a1 b1 U1.out.wb LF.out)
        have I2 := Lib.hid (fun w (h : Sta Z p w 262144 ns) => sIn_w h f a2 b2 U2.out.wb LF.out)
        have I3 := Lib.hid (fun w (h : Sta Z p w 262144 ns) => sIn_w h f a3 b3 HW3.out LF.out)
        rw [U1.out.mem] at I1
        rw [U2.out.mem] at I2
        have K1 := Lib.hid (fun w => comp_w a1 b1 a2 b2 U1.out.wb U2.out.wb w)
        have K2 := Lib.hid (fun w => comp_w a1 b1 a3 b3 U1.out.wb HW3.out w)
        have K3 := Lib.hid (fun w => comp_w a3 b3 a2 b2 HW3.out U2.out.wb w)
        have k1 := U1.out.least U2.out.wb U2.out.mem
        have k2 : ev ns (tE a3 b3) f = true → cmpW a1 b1 a3 b3 ≤ 0 := fun h => U1.out.least HW3.out h
        have k3 : ev ns (tE a3 b3) f = true → cmpW a3 b3 a2 b2 ≤ 0 := fun h => U2.out.most HW3.out h
        have CB := Lib.hid (fun w => bits_len a3 b3 HW3.out w)
        generalize cmpW a1 b1 a2 b2 = c1 at *
        generalize cmpW a1 b1 a3 b3 = c2 at *
        generalize cmpW a3 b3 a2 b2 = c3 at *
        generalize ev ns (tE a3 b3) f = r at *
        have KK := Lib.hid (And.intro k2 k3)
        have k1' : ¬ 0 < c1 := by omega
        clear k1 k2 k3 U1 U2 LF HW3 WN HZL h60
        as_aux_lemma =>
          go_wp2_with fail
          refine (CLe.out w3 S3.out).mono ?_
          rintro e w4 ⟨rfl, hb⟩
          have S4 := Lib.hid (S3.out.on hb)
          have B4 := Lib.hid (bel_on' B3.out hb)
          have H4 := Lib.hid (H3.out.on hb)
          clear hb S3 B3 H3
          go_upto_region 11 with fail
          refine at_code (S := fun w => Blk w w4.heap.size [.int .u32 (fd (a1) : Nat), .int .u32 (fs (a1) : Nat), .int .u8 (fd (b1) : Nat), .int .u16 (fx (b1) : Nat), .int .u16 (fy (b1) : Nat)] ∧ Below w4.heap.size w4 w) ⟨Blk.new _ _ _, bel_al (Below.refl _ _) _⟩ (fun w5 hW => ?_)
          obtain ⟨hX, hb⟩ := hW
          have X5 := Lib.hid hX
          have S5 := Lib.hid (S4.out.on hb)
          have B5 := Lib.hid (bel_on' B4.out hb)
          have H5 := Lib.hid (H4.out.on hb)
          clear hX hb S4 B4 H4
          go_wp2_with fail
          refine (CMo.out w5 S5.out).mono ?_
          rintro e w6 ⟨rfl, hb⟩
          have S6 := Lib.hid (S5.out.on hb)
          have B6 := Lib.hid (bel_on' B5.out hb)
          have H6 := Lib.hid (H5.out.on hb)
          have X6 := Lib.hid (X5.out.on hb)
          clear hb S5 B5 H5 X5
          go_upto_region 12 with fail
          refine at_code (S := fun w => Blk w w6.heap.size [.int .u32 (fd (a2) : Nat), .int .u32 (fs (a2) : Nat), .int .u8 (fd (b2) : Nat), .int .u16 (fx (b2) : Nat), .int .u16 (fy (b2) : Nat)] ∧ Below w6.heap.size w6 w) ⟨Blk.new _ _ _, bel_al (Below.refl _ _) _⟩ (fun w7 hW => ?_)
          obtain ⟨hX, hb⟩ := hW
          have Y7 := Lib.hid hX
          have S7 := Lib.hid (S6.out.on hb)
          have B7 := Lib.hid (bel_on' B6.out hb)
          have H7 := Lib.hid (H6.out.on hb)
          have X7 := Lib.hid (X6.out.on hb)
          clear hX hb S6 B6 H6 X6
          obtain ⟨x_0, x_1, x_2, x_3, x_4⟩ : _ ∧ _ ∧ _ ∧ _ ∧ _ := ⟨X7.out.1 0 _ rfl, X7.out.1 1 _ rfl, X7.out.1 2 _ rfl, X7.out.1 3 _ rfl, X7.out.1 4 _ rfl⟩
          go_wp2_with fail
          refine (I1.out w7 S7.out).mono ?_
          rintro e w8 ⟨rfl, hb⟩
          have S8 := Lib.hid (S7.out.on hb)
          have B8 := Lib.hid (bel_on' B7.out hb)
          have H8 := Lib.hid (H7.out.on hb)
          have X8 := Lib.hid (X7.out.on hb)
          have Y8 := Lib.hid (Y7.out.on hb)
          clear hb S7 B7 H7 X7 Y7
          clear x_0 x_1 x_2 x_3 x_4
          obtain ⟨y_0, y_1, y_2, y_3, y_4⟩ : _ ∧ _ ∧ _ ∧ _ ∧ _ := ⟨Y8.out.1 0 _ rfl, Y8.out.1 1 _ rfl, Y8.out.1 2 _ rfl, Y8.out.1 3 _ rfl, Y8.out.1 4 _ rfl⟩
          go_wp2_with fail
          refine (I2.out w8 S8.out).mono ?_
          rintro e w9 ⟨rfl, hb⟩
          have S9 := Lib.hid (S8.out.on hb)
          have B9 := Lib.hid (bel_on' B8.out hb)
          have H9 := Lib.hid (H8.out.on hb)
          have X9 := Lib.hid (X8.out.on hb)
          have Y9 := Lib.hid (Y8.out.on hb)
          clear hb S8 B8 H8 X8 Y8
          clear y_0 y_1 y_2 y_3 y_4
          obtain ⟨x_0, x_1, x_2, x_3, x_4⟩ : _ ∧ _ ∧ _ ∧ _ ∧ _ := ⟨X9.out.1 0 _ rfl, X9.out.1 1 _ rfl, X9.out.1 2 _ rfl, X9.out.1 3 _ rfl, X9.out.1 4 _ rfl⟩
          obtain ⟨y_0, y_1, y_2, y_3, y_4⟩ : _ ∧ _ ∧ _ ∧ _ ∧ _ := ⟨Y9.out.1 0 _ rfl, Y9.out.1 1 _ rfl, Y9.out.1 2 _ rfl, Y9.out.1 3 _ rfl, Y9.out.1 4 _ rfl⟩
          go_wp2_with fail
          refine (K1.out w9).mono ?_
          rintro e w10 ⟨rfl, hb⟩
          have S10 := Lib.hid (S9.out.on hb)
          have B10 := Lib.hid (bel_on' B9.out hb)
          have H10 := Lib.hid (H9.out.on hb)
          have X10 := Lib.hid (X9.out.on hb)
          have Y10 := Lib.hid (Y9.out.on hb)
          clear hb S9 B9 H9 X9 Y9
          clear x_0 x_1 x_2 x_3 x_4 y_0 y_1 y_2 y_3 y_4
          obtain ⟨h_0, h_1, h_2, h_3, h_4⟩ : _ ∧ _ ∧ _ ∧ _ ∧ _ := ⟨H10.out.1 0 _ rfl, H10.out.1 1 _ rfl, H10.out.1 2 _ rfl, H10.out.1 3 _ rfl, H10.out.1 4 _ rfl⟩
          go_wp2_with fail
          refine (CB.out w10).mono ?_
          rintro e w11 ⟨⟨g2, cap2, rfl⟩, hb⟩
          have S11 := Lib.hid (S10.out.on hb)
          have B11 := Lib.hid (bel_on' B10.out hb)
          have H11 := Lib.hid (H10.out.on hb)
          have X11 := Lib.hid (X10.out.on hb)
          have Y11 := Lib.hid (Y10.out.on hb)
          clear hb S10 B10 H10 X10 Y10
          clear h_0 h_1 h_2 h_3 h_4
          go_wp2_with fail
          refine (CA.out w11).mono ?_
          rintro e w12 ⟨rfl, hb⟩
          have S12 := Lib.hid (S11.out.on hb)
          have B12 := Lib.hid (bel_on' B11.out hb)
          have H12 := Lib.hid (H11.out.on hb)
          have X12 := Lib.hid (X11.out.on hb)
          have Y12 := Lib.hid (Y11.out.on hb)
          clear hb S11 B11 H11 X11 Y11
          obtain ⟨h_0, h_1, h_2, h_3, h_4⟩ : _ ∧ _ ∧ _ ∧ _ ∧ _ := ⟨H12.out.1 0 _ rfl, H12.out.1 1 _ rfl, H12.out.1 2 _ rfl, H12.out.1 3 _ rfl, H12.out.1 4 _ rfl⟩
          go_wp2_with fail
          refine (I3.out w12 S12.out).mono ?_
          rintro e w13 ⟨rfl, hb⟩
          have S13 := Lib.hid (S12.out.on hb)
          have B13 := Lib.hid (bel_on' B12.out hb)
          have H13 := Lib.hid (H12.out.on hb)
          have X13 := Lib.hid (X12.out.on hb)
          have Y13 := Lib.hid (Y12.out.on hb)
          clear hb S12 B12 H12 X12 Y12
          clear h_0 h_1 h_2 h_3 h_4
          cases r with
          | false =>
            go_wp2
            go_ret
            exact ⟨rfl, B13.out⟩
          | true =>
            have k2 := KK.out.1 rfl
            have k3 := KK.out.2 rfl
            obtain ⟨x_0, x_1, x_2, x_3, x_4⟩ : _ ∧ _ ∧ _ ∧ _ ∧ _ := ⟨X13.out.1 0 _ rfl, X13.out.1 1 _ rfl, X13.out.1 2 _ rfl, X13.out.1 3 _ rfl, X13.out.1 4 _ rfl⟩
            obtain ⟨h_0, h_1, h_2, h_3, h_4⟩ : _ ∧ _ ∧ _ ∧ _ ∧ _ := ⟨H13.out.1 0 _ rfl, H13.out.1 1 _ rfl, H13.out.1 2 _ rfl, H13.out.1 3 _ rfl, H13.out.1 4 _ rfl⟩
            go_wp2_with fail
            refine (K2.out w13).mono ?_
            rintro e w14 ⟨rfl, hb⟩
            have S14 := Lib.hid (S13.out.on hb)
            have B14 := Lib.hid (bel_on' B13.out hb)
            have H14 := Lib.hid (H13.out.on hb)
            have X14 := Lib.hid (X13.out.on hb)
            have Y14 := Lib.hid (Y13.out.on hb)
            clear hb S13 B13 H13 X13 Y13
            clear x_0 x_1 x_2 x_3 x_4 h_0 h_1 h_2 h_3 h_4
            obtain ⟨h_0, h_1, h_2, h_3, h_4⟩ : _ ∧ _ ∧ _ ∧ _ ∧ _ := ⟨H14.out.1 0 _ rfl, H14.out.1 1 _ rfl, H14.out.1 2 _ rfl, H14.out.1 3 _ rfl, H14.out.1 4 _ rfl⟩
            obtain ⟨y_0, y_1, y_2, y_3, y_4⟩ : _ ∧ _ ∧ _ ∧ _ ∧ _ := ⟨Y14.out.1 0 _ rfl, Y14.out.1 1 _ rfl, Y14.out.1 2 _ rfl, Y14.out.1 3 _ rfl, Y14.out.1 4 _ rfl⟩
            go_wp2_with fail
            refine (K3.out w14).mono ?_
            rintro e w15 ⟨rfl, hb⟩
            have S15 := Lib.hid (S14.out.on hb)
            have B15 := Lib.hid (bel_on' B14.out hb)
            have H15 := Lib.hid (H14.out.on hb)
            have X15 := Lib.hid (X14.out.on hb)
            have Y15 := Lib.hid (Y14.out.on hb)
            clear hb S14 B14 H14 X14 Y14
            clear h_0 h_1 h_2 h_3 h_4 y_0 y_1 y_2 y_3 y_4
            go_wp2
            go_ret
            exact ⟨rfl, B15.out⟩
theorem sends_hv (L : List Ex) (la : Option Addr) (lc : Nat) {d s q x y : Nat} (hd : d < 4294967296) (hs : s < 4294967296) (hq : q < 256) (hx : x < 65536) (hy : y < 65536) (W : World) (hL : Rw W la (L.flatMap Ex.cells)) (hlen : L.length ≤ maxLen) (hrng : ∀ x ∈ L, -9223372036854775808 ≤ x.v ∧ x.v ≤ 9223372036854775807) :
    Calls Try.prog 5 #[.slice la L.length lc, hv d s q x y] W fun e w' => e = .returned (.bool true) ∧ Below W.heap.size W w' := by
  obtain ⟨a, b, h1, h2⟩ := hw_hv hd hs hq hx hy
  rw [← h2]
  exact sends_any L la lc a b h1 W hL hlen hrng
end Go.Proofs.Yteiemcnjcdjglaa
/- Expressions and small numbers that are handed in. -/
namespace Go.Proofs.Yteiemcnjcdjglaa
open Go.ChangeShapes Go.WideShapes Go.ChangeAt Go.RowKit Go.Joins Go.Deep Go.WideElems Go.Maps

set_option maxRecDepth 100000 in
theorem exs_open' {H : Type} {enc : TypeId × Value → H} {w : World} {sp : Nat → Bool} {held : Bool} {b0 : Nat} {v : Value} {d : DataW H} {p : List MemPlace} (hv : Value.okWide Try.prog w .any b0 22 v) (h : DataW.Trod enc Try.prog w 0 sp held 22 v d p) : ∃ L la lc, Exs w v L la lc := by
  obtain ⟨a, len, cap, rfl⟩ := okWide_slice Try.underlying22 hv
  exact exs_open h ⟨_, by simp [Value.cells], rfl⟩
theorem nat_u8 {x : Int} (h : (Lit.int .u8 x).wf = true) : ∃ i : Nat, i < 256 ∧ x = (i : Nat) := by
  rw [Lit.wf, Bool.and_eq_true, decide_eq_true_eq, decide_eq_true_eq, show IntKind.u8.min = 0 from rfl, show IntKind.u8.max = 255 from rfl] at h
  exact ⟨x.toNat, by omega, by omega⟩
end Go.Proofs.Yteiemcnjcdjglaa
