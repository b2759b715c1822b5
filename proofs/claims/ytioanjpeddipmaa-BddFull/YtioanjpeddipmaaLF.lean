/- BddFull: in whatever room. -/
import Derived.Test.YtioanjpeddipmaaLF0
import Derived.Test.YtioanjpeddipmaaLA
namespace Go.Proofs.Ytioanjpeddipmaa
open Go.RowKit
set_option linter.unusedVariables false

set_option maxRecDepth 100000 in
set_option maxHeartbeats 8000000 in
theorem full_any (L : List Ex) (la : Option Addr) (lc : Nat) (i : Nat) (hi : i < 256) (W : World) (hL : Rw W la (L.flatMap Ex.cells)) (hlen : L.length ≤ maxLen) (hrng : ∀ x ∈ L, -9223372036854775808 ≤ x.v ∧ x.v ≤ 9223372036854775807) (hcap : L.length ≤ lc) :
    Calls Try.prog 5 #[.slice la L.length lc, .int .u8 (i : Nat)] W fun e w' => e = .returned (.bool true) ∧ Below W.heap.size W w' := by
  have CL := Lib.hid (light_any L la lc W hL hlen hrng)
  have CA := Lib.hid (fun w => awake_any w)
  have CN := Lib.hid (fun w => sNew 262144 (by omega) (by omega) w)
  have HL0 := Lib.hid hL
  have HZ0 := Lib.hid (rw_z hL)
  obtain ⟨n, hn⟩ : ∃ n, L.length = n := ⟨_, rfl⟩
  rw [hn] at CL hlen hcap HZ0 ⊢
  have HN := Lib.hid hn
  clear hn hL hrng
  go_enter Try.func5, Try.ntmps5
  go_wp2_with fail
  refine CL.out.mono ?_
  rintro e w1 ⟨r, rfl, hr, hb⟩
  have B1 := Lib.hid hb
  clear hb CL
  cases r with
  | false =>
    clear hr
    go_wp2_with fail
    refine (CA.out _).mono ?_
    rintro e w2 ⟨rfl, hb⟩
    have B2 := Lib.hid (bel_on' B1.out hb)
    clear hb
    go_wp2
    go_ret
    exact ⟨rfl, B2.out⟩
  | true =>
    have LT := Lib.hid (hr rfl)
    clear hr
    have h60 : n ≤ 60 := by rw [← HN.out]; exact LT.out.len
    by_cases hfew : i < 2
    · have hfew' : (i : Int) < 2 := by omega
      have CB := Lib.hid (new_bad i (Or.inl hfew') w1)
      go_wp2_with fail
      refine CB.out.mono ?_
      rintro e w' ⟨rfl, rfl⟩
      go_wp2_with fail
      refine (CA.out _).mono ?_
      rintro e w2 ⟨rfl, hb⟩
      have B2 := Lib.hid (bel_on' B1.out hb)
      clear hb
      go_wp2
      go_ret
      exact ⟨rfl, B2.out⟩
    · have hfew' : ¬ (i : Int) < 2 := by omega
      have CB := Lib.hid (sNew i (by omega) (by omega) w1)
      go_wp2_with fail
      refine CB.out.mono ?_
      rintro e w2 ⟨p, rfl, hS, hb⟩
      have S2 := Lib.hid hS
      have B2 := Lib.hid hb
      clear hS hb CB
      go_wp2_with fail
      refine (CN.out _).mono ?_
      rintro e w3 ⟨p', rfl, hS, hb⟩
      have D3 := Lib.hid (Duo.made S2.out hb hS)
      have B3 := Lib.hid (bel_on' (bel_on' B1.out B2.out) hb)
      have L12 : Hid (W.heap.size ≤ w1.heap.size) := Lib.hid B1.out.size
      clear hS hb CN S2 B2
      obtain ⟨Z, hZ⟩ : ∃ Z : Nat → Prop, (fun k => k < w1.heap.size) = Z := ⟨_, rfl⟩
      rw [hZ] at D3
      have HZL := Lib.hid (show ∀ k, k < w1.heap.size → Z k by rw [← hZ]; exact fun k hk => hk)
      clear hZ
      obtain ⟨B, hpw, hBk⟩ := LT.out.few
      have HBK := Lib.hid hBk
      have hok := Lib.hid LT.out.ok
      clear hBk LT
      go_wp2_with fail
      go_loopw [50] (fun iv' wr => ∃ (k : Nat) (nsa nsb : List Nd), iv' = .int .i64 (k : Nat) ∧ k ≤ n ∧ nsb.length ≤ 2 + k * 3072 ∧ nsa.length ≤ i ∧ Hid (Duo Z p p' wr i 262144 nsa nsb) ∧ Hid (Hold Z w3 wr) ∧ Hid (HaveL nsa [] (L.take k)) ∧ Hid (HaveL nsb [] (L.take k)) ∧ Hid (Bits B nsb)) (fun iv' _ => n - (intOf iv').toNat)
      case atStart => exact ⟨0, [bot, top], [bot, top], rfl, Nat.zero_le _, by simp, by simp; omega, D3, Lib.hid (Keep.refl _ _), Lib.hid (by simp [HaveL]), Lib.hid (by simp [HaveL]), Lib.hid (bits_new B)⟩
      case round =>
        obtain ⟨k, nsa, nsb, rfl, hk, hlb, hla, D, Ho, Ha, Hb, HBi⟩ := hrel
        clear D3
        by_cases hkn : k < n
        · obtain ⟨x, hx⟩ : ∃ x, L[k]? = some x := ⟨_, List.getElem?_eq_getElem (by have := HN.out; omega)⟩
          obtain ⟨b, off, rfl⟩ := HL0.out.elemAd 5 Ex.cells_len hx
          have hZb : Z b := HZL.out b (by have := HZ0.out b off rfl (by omega); have := L12.out; omega)
          have hts := take_snoc hx
          have hokS : OkL 0 (L.take k ++ [x]) := by rw [← hts]; exact okL_take L 0 (k + 1) hok.out
          have hlk : (L.take k).length = k := by rw [List.length_take, HN.out]; omega
          have hlk1 : (L.take (k + 1)).length = k + 1 := by rw [List.length_take, HN.out]; omega
          obtain ⟨wa, wb⟩ := D.out.wf
          obtain ⟨o, eo, lo, hcase⟩ := mk_snoc_any i wa hokS Ha.out
          obtain ⟨ob, nsb', eb, lob, wb', hvb', hBb', hlb'⟩ := mk_snoc_big (most := 262144) wb hokS Hb.out HBi.out (HBK.out x (List.mem_of_getElem? hx)) hpw (by omega)
          rw [hlk] at lo lob
          rw [← hts] at eb hvb'
          obtain ⟨k1, hk1⟩ : ∃ k1, k + 1 = k1 := ⟨_, rfl⟩
          rw [hk1] at hlk1 hts lob eb hvb'
          have hwk : IntKind.i64.wrap ((k : Int) + 1) = ((k1 : Nat) : Int) := by rw [IntKind.wrap_i64]; omega
          have hk1c : k1 ≤ lc := by omega
          have hk1c' : (k1 : Int) ≤ (lc : Int) := by omega
          have hkc : k ≤ lc := by omega
          have hk60 : k1 ≤ 60 := by omega
          have C1 := Lib.hid (duo_len D.out)
          have RL := Lib.hid (fun (w' : World) (hb : Hold Z w3 w') (j : Nat) => (show Rw w' (some ⟨b, off, none⟩) ((L.take j).flatMap Ex.cells) from fun q u hu => by
            have h3 := (HL0.out.on B3.out).take j
            obtain ⟨b', off', e', hc⟩ := h3 q u hu
            cases e'
            exact ⟨b, off, rfl, hb.cell hZb hc⟩))
          have HZb := Lib.hid hZb
          have HBb := Lib.hid (And.intro wb' (And.intro hvb' hBb'))
          have EB := Lib.hid eb
          have HLK := Lib.hid (And.intro hlk hlk1)
          have HOKk := Lib.hid (okL_take L 0 k hok.out)
          have HOKk1 := Lib.hid (okL_take L 0 k1 hok.out)
          have HK1 := Lib.hid hk1
          have CMb := Lib.hid (fun (w' : World) (nsx : List Nd) (hD : Duo Z p' p w' 262144 i nsb nsx) (hh : Hold Z w3 w') => (show Calls Try.prog 12 #[.pointer (some ⟨p', 0, none⟩), .slice (some ⟨b, off, none⟩) k1 lc] w' (MkD Z p' p 262144 i nsx w' k1 true nsb') by
            have q := make_duo (lc := lc) hD (RL.out w' hh k1) (fun b' off' e _ => by cases e; exact HZb.out) HOKk1.out (by rw [HLK.out.2]; omega) EB.out
            rw [HLK.out.2, lob] at q
            exact q))
          clear hZb wa wb wb' hvb' hBb' eb hlk hlk1 hk1
          rcases hcase with ⟨o', nsa', ea, lo', wa', hva', hla'⟩ | ea
          · rw [HLK.out.1] at lo'
            rw [← hts] at ea hva'
            have hla2 : nsa'.length ≤ i := by omega
            have CMa := Lib.hid (show Calls Try.prog 12 #[.pointer (some ⟨p, 0, none⟩), .slice (some ⟨b, off, none⟩) k1 lc] wr (MkD Z p p' i 262144 nsb wr k1 true nsa') by
              have q := make_duo (lc := lc) D.out (RL.out wr Ho.out k1) (fun b' off' e _ => by cases e; exact HZb.out) HOKk1.out (by rw [HLK.out.2]; omega) ea
              rw [HLK.out.2, lo', HK1.out] at q
              exact q)
            have HVa := Lib.hid hva'
            clear ea hva' lo' wa' hla' hts hokS hx eo
            go_wp2_with fail
            refine C1.out.mono ?_
            rintro e w' ⟨rfl, rfl⟩
            go_wp2_with fail
            refine CMa.out.mono ?_
            rintro e w4 ⟨ad, cap, rfl, hD, hH⟩
            have D4 := Lib.hid hD
            have H4 := Lib.hid (Ho.out.trans hH)
            clear hD hH C1 CMa D
            have CB2 := Lib.hid (CMb.out w4 nsa' D4.out.swap H4.out)
            clear CMb
            go_wp2_with fail
            refine CB2.out.mono ?_
            rintro e w5 ⟨ad2, cap2, rfl, hD, hH⟩
            have D5 := Lib.hid hD.swap
            have H5 := Lib.hid (H4.out.trans hH)
            clear hD hH CB2 D4 H4
            have C2 := Lib.hid (duo_len D5.out)
            have hgt : ¬ (i : Int) < ((nsa'.length : Nat) : Int) := by omega
            go_wp2_with fail
            refine C2.out.mono ?_
            rintro e w' ⟨rfl, rfl⟩
            go_wp2_with fail
            refine ⟨⟨k1, nsa', nsb', ?_, by have := HK1.out; omega, by have := HK1.out; omega, hla2, D5, H5, HVa, Lib.hid HBb.out.2.1, Lib.hid HBb.out.2.2⟩, by have := HK1.out; simp [intOf] <;> omega⟩
            first | rfl | rw [hwk]
          · rw [← hts] at ea
            have CMa := Lib.hid (show Calls Try.prog 12 #[.pointer (some ⟨p, 0, none⟩), .slice (some ⟨b, off, none⟩) k1 lc] wr (MkD Z p p' i 262144 nsb wr k false nsa) by
              have q := make_duo (lc := lc) D.out (RL.out wr Ho.out k1) (fun b' off' e _ => by cases e; exact HZb.out) HOKk1.out (by rw [HLK.out.2]; omega) ea
              rw [HLK.out.2, lo] at q
              exact q)
            have CMc := Lib.hid (fun (w' : World) (hD : Duo Z p p' w' i 262144 nsa nsb') (hh : Hold Z w3 w') => (show Calls Try.prog 12 #[.pointer (some ⟨p, 0, none⟩), .slice (some ⟨b, off, none⟩) k lc] w' (MkD Z p p' i 262144 nsb' w' k true nsa) by
              have q := make_duo (lc := lc) hD (RL.out w' hh k) (fun b' off' e _ => by cases e; exact HZb.out) HOKk.out (by rw [HLK.out.1]; omega) eo
              rw [HLK.out.1, lo] at q
              exact q))
            clear ea hts hokS hx eo
            go_wp2_with fail
            refine C1.out.mono ?_
            rintro e w' ⟨rfl, rfl⟩
            go_wp2_with fail
            refine CMa.out.mono ?_
            rintro e w4 ⟨ad, cap, rfl, hD, hH⟩
            have D4 := Lib.hid hD
            have H4 := Lib.hid (Ho.out.trans hH)
            clear hD hH C1 CMa D
            have CB2 := Lib.hid (CMb.out w4 nsa D4.out.swap H4.out)
            clear CMb
            go_wp2_with fail
            refine CB2.out.mono ?_
            rintro e w5 ⟨ad2, cap2, rfl, hD, hH⟩
            have D5 := Lib.hid hD.swap
            have H5 := Lib.hid (H4.out.trans hH)
            clear hD hH CB2 D4 H4
            have C2 := Lib.hid (duo_len D5.out)
            have hgt : ¬ (i : Int) < ((nsa.length : Nat) : Int) := by omega
            have C3 := Lib.hid (CMc.out w5 D5.out H5.out)
            clear CMc
            go_wp2_with fail
            refine C2.out.mono ?_
            rintro e w' ⟨rfl, rfl⟩
            go_wp2_with fail
            refine C3.out.mono ?_
            rintro e w6 ⟨ad3, cap3, rfl, hD, hH⟩
            have D6 := Lib.hid hD
            have H6 := Lib.hid (H5.out.trans hH)
            clear hD hH C3 C2 D5 H5
            go_wp2_with fail
            refine (CA.out _).mono ?_
            rintro e w7 ⟨rfl, hb⟩
            have C7 := Lib.hid (duo_len (D6.out.on hb))
            have B7 := Lib.hid hb
            clear hb
            go_wp2_with fail
            refine C7.out.mono ?_
            rintro e w' ⟨rfl, rfl⟩
            have FIN := Lib.hid (show Below W.heap.size W w7 from (B3.out.trans (H6.out.below B3.out.size (fun k hk => HZL.out k (by have := L12.out; omega)))).trans (B7.out.mono (by have := H6.out.size; have := B3.out.size; omega)))
            go_wp2
            go_ret
            exact ⟨rfl, FIN.out⟩
        · have hkn' : k = n := by omega
          subst hkn'
          go_wp2_with fail
          refine (CA.out _).mono ?_
          rintro e w7 ⟨rfl, hb⟩
          have B7 := Lib.hid hb
          clear hb
          have FIN := Lib.hid (show Below W.heap.size W w7 from (B3.out.trans (Ho.out.below B3.out.size (fun k hk => HZL.out k (by have := L12.out; omega)))).trans (B7.out.mono (by have := Ho.out.size; have := B3.out.size; omega)))
          go_wp2
          go_ret
          exact ⟨rfl, FIN.out⟩
end Go.Proofs.Ytioanjpeddipmaa
