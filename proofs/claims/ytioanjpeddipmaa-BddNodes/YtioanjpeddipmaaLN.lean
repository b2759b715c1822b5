/- BddNodes: what nodes are. -/
import Derived.Test.YtioanjpeddipmaaLN0
import Derived.Test.YtioanjpeddipmaaLA
namespace Go.Proofs.Ytioanjpeddipmaa
open Go.RowKit Go.Maps Go.MapKept Go.ChangeMaps Go.WideElems Go.Joins
set_option linter.unusedVariables false

theorem hMX_len {ns ns' : List Nd} (h : Ext ns ns') {n : Nat} (e : ns.length = n) : n ≤ ns'.length := by rw [← e]; exact h.len
set_option maxRecDepth 100000 in
set_option maxHeartbeats 8000000 in
theorem nodes_any (L : List Ex) (la : Option Addr) (lc : Nat) (L' : List Ex) (la' : Option Addr) (lc' : Nat) (W : World) (hL : Rw W la (L.flatMap Ex.cells)) (hlen : L.length ≤ maxLen) (hrng : ∀ x ∈ L, -9223372036854775808 ≤ x.v ∧ x.v ≤ 9223372036854775807)
    (hL' : Rw W la' (L'.flatMap Ex.cells)) (hlen' : L'.length ≤ maxLen) (hrng' : ∀ x ∈ L', -9223372036854775808 ≤ x.v ∧ x.v ≤ 9223372036854775807) :
    Calls Try.prog 4 #[.slice la L.length lc, .slice la' L'.length lc'] W fun e w' => e = .returned (.bool true) ∧ Below W.heap.size W w' := by
  have CL := Lib.hid (light_any L la lc W hL hlen hrng)
  have CL' := Lib.hid (fun (w : World) (hb : Below W.heap.size W w) => light_any L' la' lc' w (hL'.on hb) hlen' hrng')
  have CA := Lib.hid (fun w => awake_any w)
  have CN := Lib.hid (fun w => sNew 262144 (by omega) (by omega) w)
  have HL0 := Lib.hid hL
  have HL1 := Lib.hid hL'
  have CM := Lib.hid (fun (Z : Nat → Prop) (p : Nat) (w : World) (h : Sta Z p w 262144 [bot, top]) (hr : Rw w la (L.flatMap Ex.cells)) (hZ : ∀ b off, la = some ⟨b, off, none⟩ → 0 < L.length → Z b) (lt : Lt L) => make_big (lc := lc) h hr hZ lt)
  have CM' := Lib.hid (fun (Z : Nat → Prop) (p : Nat) (ns : List Nd) (w : World) (h : Sta Z p w 262144 ns) (hr : Rw w la' (L'.flatMap Ex.cells)) (hZ : ∀ b off, la' = some ⟨b, off, none⟩ → 0 < L'.length → Z b) (lt : Lt L') => make_any Z p 262144 ns L' la' lc' w h hr hZ lt.ok lt.len)
  have HZ0 := Lib.hid (rw_z hL)
  have HZ1 := Lib.hid (rw_z hL')
  obtain ⟨n0, hn⟩ : ∃ n, L.length = n := ⟨_, rfl⟩
  obtain ⟨n1, hn1⟩ : ∃ n, L'.length = n := ⟨_, rfl⟩
  rw [hn] at CL CM HZ0
  rw [hn1] at CL' CM' HZ1
  rw [hn, hn1]
  have hmm := @run_makeMap Try.prog
  clear hn hn1 hL hL' hrng hrng' hlen hlen'
  go_enter Try.func4, Try.ntmps4
  go_wp2_with fail
  refine CL.out.mono ?_
  rintro e w0 ⟨r, rfl, hr, hb⟩
  have B0 := Lib.hid hb
  clear hb CL
  cases r with
  | false =>
    clear hr
    go_wp2_with fail
    refine (CA.out _).mono ?_
    rintro e w2 ⟨rfl, hb⟩
    have B2 := Lib.hid (bel_on' B0.out hb)
    clear hb
    go_wp2
    go_ret
    exact ⟨rfl, B2.out⟩
  | true =>
    have LT := Lib.hid (hr rfl)
    clear hr
    go_wp2_with fail
    refine (CL'.out w0 B0.out).mono ?_
    rintro e w1 ⟨r, rfl, hr, hb⟩
    have B1 := Lib.hid (bel_on' B0.out hb)
    clear hb CL' B0
    cases r with
    | false =>
      clear hr
      go_wp2_with fail
      refine (CA.out _).mono ?_
      rintro e w2 ⟨rfl, hb⟩
      have B2 := Lib.hid (bel_on' B1.out hb)
      clear hb
      go_wp2
      go_ret
      exact ⟨rfl, B2.out⟩
    | true =>
      have LT' := Lib.hid (hr rfl)
      clear hr
      go_wp2_with fail
      refine (CN.out _).mono ?_
      rintro e w2 ⟨p, rfl, hS, hb⟩
      have S2 := Lib.hid hS
      have B2 := Lib.hid (bel_on' B1.out hb)
      clear hS hb CN
      have CM2 := Lib.hid (CM.out _ p w2 S2.out (HL0.out.on B2.out) (fun b off e hl => by have := HZ0.out b off e hl; have := B1.out.size; omega) LT.out)
      clear CM S2
      go_wp2_with fail
      refine CM2.out.mono ?_
      rintro e w3 ⟨v0, o, B, ns, rfl, hS, hH, hR, hF⟩
      have S3 := Lib.hid (hS.less (Z' := fun k => k < w1.heap.size) (fun k hk => Or.inl hk))
      have H3 := Lib.hid hH
      clear hS hH hR hF CM2
      have C3 := Lib.hid (sLen S3.out)
      obtain ⟨n, hn⟩ : ∃ n, ns.length = n := ⟨_, rfl⟩
      have hn2 : 2 ≤ n := by have := S3.out.wf.len; omega
      have hnm : n ≤ 262144 := by have := S3.out.len; omega
      rw [hn] at C3
      have HN := Lib.hid hn
      have WNS := Lib.hid S3.out.wf
      clear hn
      go_wp2_with fail
      refine C3.out.mono ?_
      rintro e w' ⟨rfl, rfl⟩
      clear C3
      go_upto_region 9 with fail
      refine at_code (S := fun W' => MapT Try.prog 48 4 nv W' w3.heap.size [] ∧ Below w3.heap.size w3 W' ∧ w3.heap.size < W'.heap.size) ⟨MapT.made w3, bel_al (Below.refl _ _) _, by simp⟩ (fun W4 hW => ?_)
      obtain ⟨hm4, hb4, hlt4⟩ := hW
      obtain ⟨Z, hZ⟩ : ∃ Z : Nat → Prop, (fun k => (fun k => k < w1.heap.size) k ∨ k = w3.heap.size) = Z := ⟨_, rfl⟩
      have S4 := Lib.hid (show Sta Z p W4 262144 ns by rw [← hZ]; exact S3.out.grow hb4 (Y := fun k => k = w3.heap.size) (fun k e => by rw [e]; exact ⟨Nat.le_refl _, hlt4⟩))
      have M4 := Lib.hid hm4
      have B4 := Lib.hid (show Below W.heap.size W W4 from bel_on' (B2.out.trans (H3.out.below B2.out.size (fun k hk => by show k < w1.heap.size; have := B1.out.size; omega))) hb4)
      have HZm : Hid (Z w3.heap.size) := Lib.hid (by rw [← hZ]; exact Or.inr rfl)
      have HZl : Hid (∀ k, k < w1.heap.size → Z k) := Lib.hid (by rw [← hZ]; exact fun k hk => Or.inl hk)
      obtain ⟨mb, hmb⟩ : ∃ mb, w3.heap.size = mb := ⟨_, rfl⟩
      have HMB := Lib.hid (show W.heap.size ≤ mb by rw [← hmb]; exact Nat.le_trans B2.out.size H3.out.size)
      rw [hmb] at M4 HZm ⊢
      clear hm4 hb4 hlt4 hZ S3 H3 hmm hmb
      have CND := Lib.hid (fun (w : World) (hS : Sta Z p w 262144 ns) (f : Nat) (hf : f < n) => sNode hS f (by rw [HN.out]; exact hf))
      have CH := Lib.hid (fun (w : World) (hS : Sta Z p w 262144 ns) (f : Int) => sHas hS f)
      rw [HN.out] at CH
      go_wp2_with fail
      go_loopw [46] (fun iv' wr => ∃ k : Nat, iv' = .int .i64 (k : Nat) ∧ k ≤ n ∧ Hid (Sta Z p wr 262144 ns) ∧ Hid (MapT Try.prog 48 4 nv wr mb (inner ns k)) ∧ Hid (Below W.heap.size W wr)) (fun iv' _ => n - (intOf iv').toNat)
      case atStart => exact ⟨0, rfl, Nat.zero_le _, S4, Lib.hid (M4.out.perm (fun q => ⟨fun h => (by cases h), fun h => absurd h (inner_two ns (by omega) q)⟩)), B4⟩
      case round =>
        obtain ⟨k, rfl, hk, hS, hM, hB⟩ := hrel
        clear S4 M4 B4
        by_cases hkn : k < n
        · have hwk : IntKind.i64.wrap ((k : Int) + 1) = ((k + 1 : Nat) : Int) := by rw [IntKind.wrap_i64]; omega
          obtain ⟨nd, hnd⟩ : ∃ x, ns.getD k bot = x := ⟨_, rfl⟩
          have C5 := Lib.hid (CND.out wr hS.out k hkn)
          rw [hnd] at C5
          have hok := node_ok hS.out.wf (by rw [HN.out]; exact hnm) (f := k) (by rw [HN.out]; exact hkn)
          rw [hnd] at hok
          have HND := Lib.hid hnd
          by_cases hk1 : k ≤ 1
          · have hk1' : (k : Int) ≤ 1 := by omega
            have hnd' : nd = ⟨104, k, k⟩ := by
              rw [← hnd]
              have : k = 0 ∨ k = 1 := by omega
              rcases this with rfl | rfl
              · exact getD_some hS.out.wf.z
              · exact getD_some hS.out.wf.o
            subst hnd'
            clear hnd hok
            go_wp2_with fail
            refine C5.out.mono ?_
            rintro e w5 ⟨rfl, hb⟩
            have S5 := Lib.hid (hS.out.on hb)
            have M5 := Lib.hid (hM.out.same (hb.block _ hM.out.lt))
            have B5 := Lib.hid (bel_on' hB.out hb)
            clear hb C5
            go_wp2_with fail
            refine ⟨⟨k + 1, ?_, by omega, S5, Lib.hid (M5.out.perm (fun q => ⟨fun h => absurd h (inner_two ns (by omega) q), fun h => absurd h (inner_two ns (by omega) q)⟩)), B5⟩, by simp [intOf] <;> omega⟩
            first | rfl | rw [hwk]
          · have hk1' : ¬ (k : Int) ≤ 1 := by omega
            obtain ⟨pl, ph, pne, pvl, pvh, -⟩ := hS.out.wf.parts (f := k) (by omega) (by rw [HN.out]; exact hkn)
            have hlvk : lv ns k = nd.v := by unfold lv; rw [hnd]
            rw [hlvk] at pvl pvh
            rw [hnd] at pl ph pne pvl pvh
            obtain ⟨v, l, hh⟩ := nd
            simp only at pl ph pne pvl pvh hlvk
            obtain ⟨x, hx⟩ : ∃ x, ns.getD l bot = x := ⟨_, rfl⟩
            obtain ⟨y, hy⟩ : ∃ y, ns.getD hh bot = y := ⟨_, rfl⟩
            have hxv : lv ns l = x.v := by unfold lv; rw [hx]
            have hyv : lv ns hh = y.v := by unfold lv; rw [hy]
            rw [hxv] at pvl
            rw [hyv] at pvh
            have C6 := Lib.hid (fun (w : World) (q : Sta Z p w 262144 ns) => CND.out w q l (by omega))
            have C7 := Lib.hid (fun (w : World) (q : Sta Z p w 262144 ns) => CND.out w q hh (by omega))
            rw [hx] at C6
            rw [hy] at C7
            obtain ⟨xv, xl, xh⟩ := x
            obtain ⟨yv, yl, yh⟩ := y
            simp only at pvl pvh
            obtain ⟨KL, hKL⟩ := key_tri ⟨v, l, hh⟩ hok
            have hnot : (⟨v, l, hh⟩ : Nd) ∉ inner ns k := by rw [← hnd]; exact inner_not hS.out.wf (by rw [HN.out]; exact hkn)
            have HK := Lib.hid (And.intro hKL hnot)
            have hil : (inner ns k).length < maxLen := by
              unfold inner maxLen
              rw [List.length_drop, List.length_take]
              omega
            have HIL := Lib.hid hil
            have d1 : ¬ (l : Int) = (hh : Int) := by omega
            have d1' : ((l : Int) == (hh : Int)) = false := by simp; omega
            have d2 : ¬ (xv : Int) ≤ (v : Int) := by omega
            have d3 : ¬ (yv : Int) ≤ (v : Int) := by omega
            have d4 : ¬ (v : Int) < 0 := by omega
            have d5 : ¬ (k : Int) ≤ (l : Int) := by omega
            have d6 : ¬ (k : Int) ≤ (hh : Int) := by omega
            clear hnd hok hKL hnot hx hy hxv hyv hlvk hil
            go_wp2_with fail
            refine C5.out.mono ?_
            rintro e w5 ⟨rfl, hb⟩
            have S5 := Lib.hid (hS.out.on hb)
            have M5 := Lib.hid (hM.out.same (hb.block _ hM.out.lt))
            have B5 := Lib.hid (bel_on' hB.out hb)
            clear hb C5
            go_wp2_with fail
            refine (C6.out w5 S5.out).mono ?_
            rintro e w6 ⟨rfl, hb⟩
            have S6 := Lib.hid (S5.out.on hb)
            have M6 := Lib.hid (M5.out.same (hb.block _ M5.out.lt))
            have B6 := Lib.hid (bel_on' B5.out hb)
            clear hb C6 S5 M5 B5
            go_wp2_with fail
            refine (C7.out w6 S6.out).mono ?_
            rintro e w7 ⟨rfl, hb⟩
            have S7 := Lib.hid (S6.out.on hb)
            have M7 := Lib.hid (M6.out.same (hb.block _ M6.out.lt))
            have B7 := Lib.hid (bel_on' B6.out hb)
            clear hb C7 S6 M6 B6
            go_upto_region 19 with fail
            refine at_code (S := fun W' => Blk W' w7.heap.size [.int .i64 (v : Nat), .int .i64 (l : Nat), .int .i64 (hh : Nat)] ∧ Below w7.heap.size w7 W') ⟨Blk.new _ _ _, bel_al (Below.refl _ _) _⟩ (fun W8 hW => ?_)
            obtain ⟨hX, hb⟩ := hW
            obtain ⟨x_0, x_1, x_2⟩ : _ ∧ _ ∧ _ := ⟨hX.1 0 _ rfl, hX.1 1 _ rfl, hX.1 2 _ rfl⟩
            have S8 := Lib.hid (S7.out.on hb)
            have M8 := Lib.hid (M7.out.same (hb.block _ M7.out.lt))
            have B8 := Lib.hid (bel_on' B7.out hb)
            clear hb hX S7 M7 B7
            have hlk := mapT_none keyedTri Try.underlying45 zeroBool nv_inj M8.out HK.out.1 HK.out.2
            obtain ⟨w9, hup, hM9, hO9⟩ := mapT_store keyedTri Try.underlying45 nv_inj (plainElem_bool Try.underlying4 true) M8.out HK.out.1 HK.out.2 HIL.out
            have M9 := Lib.hid hM9
            have O9 := Lib.hid hO9
            clear hM9 hO9
            simp only [nv] at hlk hup
            have C8 := Lib.hid (CH.out W8 S8.out (k : Nat))
            have hhas : hasB n (k : Nat) = true := by unfold hasB; simp; exact hkn
            rw [hhas] at C8
            clear hhas
            go_wp2_with fail
            refine C8.out.mono ?_
            rintro e w' ⟨rfl, rfl⟩
            go_wp2_with fail
            refine ⟨⟨k + 1, ?_, by omega, Lib.hid (S8.out.only O9.out HZm.out), Lib.hid (M9.out.perm (fun q => ?_)), Lib.hid (O9.out.below B8.out HMB.out)⟩, by simp [intOf] <;> omega⟩
            · first | rfl | rw [hwk]
            · have := inner_succ (ns := ns) (k := k) (by omega) (by rw [HN.out]; exact hkn) q
              rw [HND.out] at this
              exact this
        · have hkn' : k = n := by omega
          subst hkn'
          have CM3 := Lib.hid (CM'.out Z p ns wr hS.out (HL1.out.on hB.out) (fun b off e hl => HZl.out b (by have := HZ1.out b off e hl; have := B1.out.size; omega)) LT'.out)
          obtain ⟨mw, mx, -⟩ := mk_any 262144 L' ns [] [] hS.out.wf (Stand.nil _) LT'.out.ok
          obtain ⟨M, hMM⟩ : ∃ M, mkF 262144 ns [] L' = M := ⟨_, rfl⟩
          rw [hMM] at CM3 mw mx
          have MX := Lib.hid mx
          clear mw mx hMM CM' CND
          go_wp2_with fail
          refine CM3.out.mono ?_
          rintro e wa ⟨va, he, hSa, hHa, -⟩
          obtain ⟨z, hz⟩ : ∃ z : Int, (if M.2.1 = true then (0 : Int) else 20) = z := ⟨_, rfl⟩
          rw [hz] at he
          subst he
          clear hz
          have Sa := Lib.hid (hSa.less (Z' := Z) (fun q hq => Or.inl hq))
          have Ma := Lib.hid (hM.out.same (hHa.block _ hM.out.lt (fun q => q HZm.out)))
          have Ba := Lib.hid (hB.out.trans (hHa.below hB.out.size (fun q hq => HZl.out q (by have := B1.out.size; omega))))
          have hlm := hMX_len MX.out HN.out
          clear hSa hHa CM3 hS hM hB
          have CND := Lib.hid (fun (w : World) (q : Sta Z p w 262144 M.2.2) (f : Nat) (hf : f < k) => (show Calls Try.prog 18 #[.pointer (some ⟨p, 0, none⟩), .int .i64 (f : Nat)] w fun e w' => e = .returned (.tuple #[.int .i64 ((ns.getD f bot).v : Nat), .int .i64 ((ns.getD f bot).l : Nat), .int .i64 ((ns.getD f bot).h : Nat)]) ∧ Below w.heap.size w w' by
            have z := sNode q f (by omega)
            rw [MX.out.getD (by rw [HN.out]; exact hf)] at z
            exact z))
          go_wp2_with fail
          go_loopw [20] (fun iv' wr => ∃ f : Nat, iv' = .int .i64 (f : Nat) ∧ 2 ≤ f ∧ f ≤ k ∧ Hid (Sta Z p wr 262144 M.2.2) ∧ Hid (MapT Try.prog 48 4 nv wr mb (inner ns k)) ∧ Hid (Below W.heap.size W wr)) (fun iv' _ => k - (intOf iv').toNat)
          case atStart => exact ⟨2, rfl, Nat.le_refl _, hn2, Sa, Ma, Ba⟩
          case round =>
            obtain ⟨f, rfl, hf2, hfk, hS, hM, hB⟩ := hrel
            clear Sa Ma Ba
            by_cases hfn : f < k
            · have hwk : IntKind.i64.wrap ((f : Int) + 1) = ((f + 1 : Nat) : Int) := by rw [IntKind.wrap_i64]; omega
              obtain ⟨nd, hnd⟩ : ∃ x, ns.getD f bot = x := ⟨_, rfl⟩
              have C5 := Lib.hid (CND.out wr hS.out f hfn)
              rw [hnd] at C5
              have hwn := WNS.out
              have hok := node_ok hwn (by rw [HN.out]; exact hnm) (f := f) (by rw [HN.out]; exact hfn)
              have hin : ns.getD f bot ∈ inner ns k := inner_mem.2 ⟨f, hf2, hfn, get_of_lt (by rw [HN.out]; exact hfn)⟩
              rw [hnd] at hok hin
              obtain ⟨v, l, hh⟩ := nd
              obtain ⟨KL, hKL⟩ := key_tri ⟨v, l, hh⟩ hok
              have HK := Lib.hid (And.intro hKL hin)
              clear hnd hok hKL hin hwn
              simp only at C5
              go_wp2_with fail
              refine C5.out.mono ?_
              rintro e w5 ⟨rfl, hb⟩
              have S5 := Lib.hid (hS.out.on hb)
              have M5 := Lib.hid (hM.out.same (hb.block _ hM.out.lt))
              have B5 := Lib.hid (bel_on' hB.out hb)
              clear hb C5
              have hlk := mapT_some keyedTri Try.underlying45 zeroBool M5.out HK.out.1 HK.out.2
              simp only [nv] at hlk
              go_wp2_with fail
              refine ⟨⟨f + 1, ?_, by omega, by omega, S5, M5, B5⟩, by simp [intOf] <;> omega⟩
              first | rfl | rw [hwk]
            · have hfk' : f = k := by omega
              subst hfk'
              have C9 := Lib.hid (fun (w : World) (q : Sta Z p w 262144 M.2.2) => sLen q)
              have CHs := Lib.hid (fun (w : World) (q : Sta Z p w 262144 M.2.2) (z : Int) => sHas q z)
              have h1 : hasB M.2.2.length (M.2.2.length : Nat) = false := by unfold hasB; simp
              have h2 : hasB M.2.2.length (-1) = false := by unfold hasB; simp
              have H12 := Lib.hid (And.intro h1 h2)
              have hn2' : (2 : Int) ≤ (f : Int) := by omega
              clear h1 h2
              go_wp2_with fail
              refine (CA.out _).mono ?_
              rintro e w5 ⟨rfl, hb⟩
              have S5 := Lib.hid (hS.out.on hb)
              have B5 := Lib.hid (bel_on' hB.out hb)
              clear hb
              have D9 := Lib.hid (C9.out w5 S5.out)
              have D1 := Lib.hid (CHs.out w5 S5.out (M.2.2.length : Nat))
              have D2 := Lib.hid (CHs.out w5 S5.out (-1))
              rw [H12.out.1] at D1
              rw [H12.out.2] at D2
              clear C9 CHs
              go_wp2_with fail
              refine D9.out.mono ?_
              rintro e w' ⟨rfl, rfl⟩
              go_wp2_with fail
              refine D1.out.mono ?_
              rintro e w' ⟨rfl, rfl⟩
              go_wp2_with fail
              refine D2.out.mono ?_
              rintro e w' ⟨rfl, rfl⟩
              go_wp2
              go_ret
              exact ⟨rfl, B5.out⟩
end Go.Proofs.Ytioanjpeddipmaa
