/- BddHeld: a bit held. -/
import Derived.Test.YtioanjpeddipmaaAY
import Derived.Test.YtioanjpeddipmaaLA
namespace Go.Proofs.Ytioanjpeddipmaa
open Go.RowKit
set_option linter.unusedVariables false

set_option maxRecDepth 100000 in
set_option maxHeartbeats 8000000 in
theorem held_any (L : List Ex) (la : Option Addr) (lc : Nat) (i : Nat) (hi : i < 256) (W : World) (hL : Rw W la (L.flatMap Ex.cells)) (hlen : L.length ≤ maxLen) (hrng : ∀ x ∈ L, -9223372036854775808 ≤ x.v ∧ x.v ≤ 9223372036854775807) :
    Calls Try.prog 8 #[.slice la L.length lc, .int .u8 (i : Nat)] W fun e w' => e = .returned (.bool true) ∧ Below W.heap.size W w' := by
  have CL := Lib.hid (light_any L la lc W hL hlen hrng)
  have CA := Lib.hid (fun w => awake_any w)
  have CN := Lib.hid (fun w => sNew 262144 (by omega) (by omega) w)
  have HL0 := Lib.hid hL
  have CM := Lib.hid (fun (Z : Nat → Prop) (p : Nat) (w : World) (h : Sta Z p w 262144 [bot, top]) (hr : Rw w la (L.flatMap Ex.cells)) (hZ : ∀ b off, la = some ⟨b, off, none⟩ → 0 < L.length → Z b) (lt : Lt L) => make_big (lc := lc) h hr hZ lt)
  obtain ⟨n, hn⟩ : ∃ n, L.length = n := ⟨_, rfl⟩
  rw [hn] at CL CM hlen ⊢
  have HN := Lib.hid hn
  clear hn hL hrng
  go_enter Try.func8, Try.ntmps8
  go_wp2_with fail
  refine CL.out.mono ?_
  rintro e w1 ⟨r, rfl, hr, hb⟩
  have B1 := Lib.hid hb
  clear hb CL
  cases r with
  | false =>
    clear hr
    go_wp2_with fail
    refine (CA.out _).mono ?_
    rintro e w2 ⟨rfl, hb⟩
    have B2 := Lib.hid (bel_on' B1.out hb)
    clear hb
    go_wp2
    go_ret
    exact ⟨rfl, B2.out⟩
  | true =>
    have LT := Lib.hid (hr rfl)
    clear hr
    have h60 : n ≤ 60 := by rw [← HN.out]; exact LT.out.len
    by_cases hfew : n = 0
    · subst hfew
      go_wp2_with fail
      refine (CA.out _).mono ?_
      rintro e w2 ⟨rfl, hb⟩
      have B2 := Lib.hid (bel_on' B1.out hb)
      clear hb
      go_wp2
      go_ret
      exact ⟨rfl, B2.out⟩
    · have hn0 : ((n : Int) == 0) = false := by simp; omega
      have hn0' : ¬ (n : Int) = 0 := by omega
      go_wp2_with fail
      refine (CN.out _).mono ?_
      rintro e w2 ⟨p, rfl, hS, hb⟩
      have S2 := Lib.hid hS
      have B2 := Lib.hid (bel_on' B1.out hb)
      clear hS hb CN
      have CM2 := Lib.hid (CM.out _ p w2 S2.out (HL0.out.on B2.out) (fun b off e hl => by have := rw_z HL0.out b off e (by rw [HN.out]; exact hl); have := B1.out.size; omega) LT.out)
      clear CM S2
      go_wp2_with fail
      refine CM2.out.mono ?_
      rintro e w3 ⟨v, o, B, ns, rfl, hS, hH, hR, hF⟩
      have hon : o.length = n := by rw [hF.len]; exact HN.out
      obtain ⟨g, cap, hv, hg⟩ := row_form hR (by omega)
      rw [hon] at hg hv
      obtain ⟨Z, hZ⟩ : ∃ Z, Zv (fun k => k < w1.heap.size) v = Z := ⟨_, rfl⟩
      have hzl : ∀ k, k < w1.heap.size → Z k := by rw [← hZ]; exact Zv_lt (fun k hk => hk)
      have hzg : Z g := by rw [← hZ, hv]; exact Or.inr rfl
      rw [hZ] at hS
      have H3 := Lib.hid hH
      have HZL := Lib.hid (And.intro hzl hzg)
      have HF := Lib.hid hF
      have HG := Lib.hid hg
      have S3 := Lib.hid hS
      subst hv
      clear CM2 hR hZ hzl hzg hH hF hg hS hon
      obtain ⟨m, hm⟩ : ∃ m, n = m + 1 := ⟨n - 1, by omega⟩
      have hw1 : IntKind.i64.wrap ((n : Int) - 1) = ((m : Nat) : Int) := by rw [IntKind.wrap_i64]; omega
      have hmn : m < n := by omega
      obtain ⟨k, hk⟩ : ∃ k : Nat, k = i % 104 := ⟨_, rfl⟩
      have hk104 : k < 104 := by omega
      have hrem : (i : Int) % 104 = (k : Nat) := by omega
      have hrem' : Int.tmod (i : Int) 104 = (k : Nat) := by rw [Int.tmod_eq_emod_of_nonneg (by omega)]; omega
      have F0 := Lib.hid (HF.out.at_ (i := m) (by rw [HN.out]; exact hmn))
      have g_m := HG.out m hmn
      obtain ⟨f, hf⟩ : ∃ f, o.getD m 0 = f := ⟨_, rfl⟩
      obtain ⟨φ, hφ⟩ : ∃ φ, (semL [] L).getD m (fun _ => false) = φ := ⟨_, rfl⟩
      rw [hf] at F0 g_m
      rw [hφ] at F0
      have hl3 := HF.out.most
      have hpw := HF.out.pw
      have WN := Lib.hid S3.out.wf
      have HB := Lib.hid HF.out.bits
      clear hf hφ HF HG hm hk
      have C4 := Lib.hid (bRes S3.out HB.out false hk104 F0.out hpw (by omega))
      go_wp2_with fail
      refine C4.out.mono ?_
      rintro e w4 ⟨q4, ns4, rfl, hS, hH, hO, hT⟩
      have S4 := Lib.hid hS
      have H4 := Lib.hid (hH)
      have hl4 := hO.len
      have O4 := Lib.hid hO
      have W4 := Lib.hid hO.wf
      have F0' := Lib.hid (hO.st WN.out F0.out)
      clear F0
      have F0 := F0'
      clear F0'
      have T4 := Lib.hid hT
      clear hS hH hO hT C4 S3 g_m
      have C5 := Lib.hid (bRes S4.out O4.out.bits true hk104 F0.out hpw (by omega))
      go_wp2_with fail
      refine C5.out.mono ?_
      rintro e w5 ⟨q5, ns5, rfl, hS, hH, hO, hT⟩
      have S5 := Lib.hid hS
      have H5 := Lib.hid (H4.out.trans hH)
      have hl5 := hO.len
      have O5 := Lib.hid hO
      have W5 := Lib.hid hO.wf
      have F0' := Lib.hid (hO.st W4.out F0.out)
      clear F0
      have F0 := F0'
      clear F0'
      have T4' := Lib.hid (hO.st W4.out T4.out)
      clear T4
      have T4 := T4'
      clear T4'
      have T5 := Lib.hid hT
      clear hS hH hO hT C5 S4
      have HB2 := Lib.hid (show Bits (fun j => B j || decide (j = k)) ns5 from O5.out.bits.mono (fun j hj => by rw [hj]; rfl))
      have hpw2 : pw (fun j => B j || decide (j = k)) ≤ 2048 := Nat.le_trans (pw_add B k) (by omega)
      have HPW := Lib.hid hpw2
      clear hpw2
      have C6 := Lib.hid (bVar S5.out HB2.out hk104 (by simp) (Nat.le_refl 1) (by omega))
      go_wp2_with fail
      refine C6.out.mono ?_
      rintro e w6 ⟨q6, ns6, rfl, hS, hH, hO, hT⟩
      have S6 := Lib.hid hS
      have H6 := Lib.hid (H5.out.trans hH)
      have hl6 := hO.len
      have O6 := Lib.hid hO
      have W6 := Lib.hid hO.wf
      have F0' := Lib.hid (hO.st W5.out F0.out)
      clear F0
      have F0 := F0'
      clear F0'
      have T4' := Lib.hid (hO.st W5.out T4.out)
      clear T4
      have T4 := T4'
      clear T4'
      have T5' := Lib.hid (hO.st W5.out T5.out)
      clear T5
      have T5 := T5'
      clear T5'
      have T6 := Lib.hid hT
      clear hS hH hO hT C6 S5
      have C7 := Lib.hid (bIte S6.out O6.out.bits T6.out T5.out T4.out (c := 6144) (by have := HPW.out; omega) (by omega))
      go_wp2_with fail
      refine C7.out.mono ?_
      rintro e w7 ⟨q7, ns7, rfl, hS, hH, hO, hT⟩
      have S7 := Lib.hid hS
      have H7 := Lib.hid (H6.out.trans hH)
      have hl7 := hO.len
      have O7 := Lib.hid hO
      have W7 := Lib.hid hO.wf
      have F0' := Lib.hid (hO.st W6.out F0.out)
      clear F0
      have F0 := F0'
      clear F0'
      have T4' := Lib.hid (hO.st W6.out T4.out)
      clear T4
      have T4 := T4'
      clear T4'
      have T5' := Lib.hid (hO.st W6.out T5.out)
      clear T5
      have T5 := T5'
      clear T5'
      have T7 := Lib.hid hT
      clear hS hH hO hT C7 S6
      have C8 := Lib.hid (bRes S7.out O7.out.bits true hk104 T4.out HPW.out (by omega))
      go_wp2_with fail
      refine C8.out.mono ?_
      rintro e w8 ⟨q8, ns8, rfl, hS, hH, hO, hT⟩
      have S8 := Lib.hid hS
      have H8 := Lib.hid (H7.out.trans hH)
      have hl8 := hO.len
      have O8 := Lib.hid hO
      have W8 := Lib.hid hO.wf
      have F0' := Lib.hid (hO.st W7.out F0.out)
      clear F0
      have F0 := F0'
      clear F0'
      have T4' := Lib.hid (hO.st W7.out T4.out)
      clear T4
      have T4 := T4'
      clear T4'
      have T5' := Lib.hid (hO.st W7.out T5.out)
      clear T5
      have T5 := T5'
      clear T5'
      have T7' := Lib.hid (hO.st W7.out T7.out)
      clear T7
      have T7 := T7'
      clear T7'
      have T8 := Lib.hid hT
      clear hS hH hO hT C8 S7
      have e1 : q7 = f := St.one W8.out T7.out F0.out (fun e => by
        show iteB (e k) (φ (hld e k true)) (φ (hld e k false)) = φ e
        have := hld_self e k
        cases he : e k
        · rw [he] at this; rw [this]; unfold iteB; simp
        · rw [he] at this; rw [this]; unfold iteB; simp)
      have e2 : q8 = q4 := St.one W8.out T8.out T4.out (fun e => by
        show φ (hld (hld e k true) k false) = φ (hld e k false)
        rw [hld_upd])
      have e3 : q4 = q5 → q4 = f := fun q => St.one W8.out T4.out F0.out (fun e => by
        have hq := St.ne T4.out T5.out q e
        have := hld_self e k
        show φ (hld e k false) = φ e
        replace hq : φ (hld e k false) = φ (hld e k true) := hq
        cases he : e k
        · rw [he] at this; rw [this]
        · rw [he] at this; rw [hq, this])
      subst e1
      subst e2
      have E3 := Lib.hid e3
      have BF := Lib.hid (H8.out.below (Nat.le_trans B2.out.size H3.out.size) (fun k hk => HZL.out.1 k (by have := B1.out.size; omega)))
      clear e3
      have FIN := Lib.hid (show Below W.heap.size W w8 from (B2.out.trans (H3.out.below B2.out.size (fun k hk => by show k < w1.heap.size; have := B1.out.size; omega))).trans BF.out)
      clear BF
      by_cases hq : q8 = q5
      · have hz := E3.out hq
        subst hz
        subst hq
        go_wp2_with fail
        refine (CA.out _).mono ?_
        rintro e w9 ⟨rfl, hb⟩
        have B9 := Lib.hid (FIN.out.trans (hb.mono FIN.out.size))
        clear hb
        go_wp2
        go_ret
        exact ⟨rfl, B9.out⟩
      · have hq' : ((q8 : Int) == (q5 : Int)) = false := by simp; omega
        have hq'' : ¬ (q8 : Int) = (q5 : Int) := by omega
        go_wp2_with fail
        refine (CA.out _).mono ?_
        rintro e w9 ⟨rfl, hb⟩
        have B9 := Lib.hid (FIN.out.trans (hb.mono FIN.out.size))
        clear hb
        go_wp2
        go_ret
        exact ⟨rfl, B9.out⟩
end Go.Proofs.Ytioanjpeddipmaa
