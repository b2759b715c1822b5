/- BddLaws: joined sets keep the laws of sets. -/
import Derived.Test.YtioanjpeddipmaaAY
import Derived.Test.YtioanjpeddipmaaLA
namespace Go.Proofs.Ytioanjpeddipmaa
open Go.RowKit
set_option linter.unusedVariables false

/-- A join by the law's own function, with room enough. -/
def BigN (Z : Nat → Prop) (p : Nat) (W : World) (B : Nat → Bool) (ns : List Nd) (c : Nat) (φ : Env → Bool) (e : Ending) (w' : World) : Prop :=
  ∃ q ns', e = .returned (.int .i64 (q : Nat)) ∧ Sta Z p w' 262144 ns' ∧ Hold Z W w' ∧ On B ns ns' c ∧ St ns' q φ
set_option maxRecDepth 100000 in
set_option maxHeartbeats 2000000 in
theorem cl_core (kind f g : Int) (p bx : Nat) (W : World) (Z : Nat → Prop) (B : Nat → Bool) (ns : List Nd) (c : Nat) (φ : Env → Bool) (hx : W.cell? ⟨bx, 0, none⟩ = some (.pointer (some ⟨p, 0, none⟩))) (HJ : Hid (Calls Try.prog 16 #[.pointer (some ⟨p, 0, none⟩), .int .i64 kind, .int .i64 f, .int .i64 g] W (Big Z p W B ns c φ))) :
    Calls Try.prog 24 #[.int .i64 kind, .int .i64 f, .int .i64 g, .pointer (some ⟨bx, 0, none⟩)] W (BigN Z p W B ns c φ) := by
  go_enter Try.func24, Try.ntmps24
  go_wp2_with fail
  refine HJ.out.mono ?_
  rintro e w1 ⟨q, ns', rfl, h1, h2, h3, h4⟩
  have F := Lib.hid (And.intro h1 (And.intro h2 (And.intro h3 h4)))
  clear h1 h2 h3 h4
  go_wp2
  go_ret
  exact ⟨q, ns', rfl, F.out⟩
theorem cl_big {Z : Nat → Prop} {p : Nat} {W : World} {ns : List Nd} (h : Sta Z p W 262144 ns) {B : Nat → Bool} (hB : Bits B ns) {c bx : Nat} (kind : Nat) (hk : kind ≤ 3) {f g : Nat} {φ ψ : Env → Bool} (hf : St ns f φ) (hg : St ns g ψ) (hc : pw B ≤ c) (hm : ns.length + c < 262144) (hx : W.cell? ⟨bx, 0, none⟩ = some (.pointer (some ⟨p, 0, none⟩))) :
    Calls Try.prog 24 #[.int .i64 (kind : Nat), .int .i64 (f : Nat), .int .i64 (g : Nat), .pointer (some ⟨bx, 0, none⟩)] W (BigN Z p W B ns c (fun e => opB kind (φ e) (ψ e))) :=
  cl_core kind f g p bx W Z B ns c _ hx (bJoin h hB kind hk hf hg hc hm)
set_option maxRecDepth 100000 in
set_option maxHeartbeats 8000000 in
theorem laws_any (L : List Ex) (la : Option Addr) (lc : Nat)  (W : World) (hL : Rw W la (L.flatMap Ex.cells)) (hlen : L.length ≤ maxLen) (hrng : ∀ x ∈ L, -9223372036854775808 ≤ x.v ∧ x.v ≤ 9223372036854775807) :
    Calls Try.prog 7 #[.slice la L.length lc] W fun e w' => e = .returned (.bool true) ∧ Below W.heap.size W w' := by
  have CL := Lib.hid (light_any L la lc W hL hlen hrng)
  have CA := Lib.hid (fun w => awake_any w)
  have CN := Lib.hid (fun w => sNew 262144 (by omega) (by omega) w)
  have HL0 := Lib.hid hL
  have CM := Lib.hid (fun (Z : Nat → Prop) (p : Nat) (w : World) (h : Sta Z p w 262144 [bot, top]) (hr : Rw w la (L.flatMap Ex.cells)) (hZ : ∀ b off, la = some ⟨b, off, none⟩ → 0 < L.length → Z b) (lt : Lt L) => make_big (lc := lc) h hr hZ lt)
  obtain ⟨n, hn⟩ : ∃ n, L.length = n := ⟨_, rfl⟩
  rw [hn] at CL CM hlen ⊢
  have HN := Lib.hid hn
  clear hn hL hrng
  go_enter Try.func7, Try.ntmps7
  go_wp2_with fail
  refine CL.out.mono ?_
  rintro e w1 ⟨r, rfl, hr, hb⟩
  have B1 := Lib.hid hb
  clear hb CL
  cases r with
  | false =>
    clear hr
    go_wp2_with fail
    refine (CA.out _).mono ?_
    rintro e w2 ⟨rfl, hb⟩
    have B2 := Lib.hid (bel_on' B1.out hb)
    clear hb
    go_wp2
    go_ret
    exact ⟨rfl, B2.out⟩
  | true =>
    have LT := Lib.hid (hr rfl)
    clear hr
    have h60 : n ≤ 60 := by rw [← HN.out]; exact LT.out.len
    by_cases hfew : n < 3
    · have hfew' : (n : Int) < 3 := by omega
      go_wp2_with fail
      refine (CA.out _).mono ?_
      rintro e w2 ⟨rfl, hb⟩
      have B2 := Lib.hid (bel_on' B1.out hb)
      clear hb
      go_wp2
      go_ret
      exact ⟨rfl, B2.out⟩
    · have hfew' : ¬ (n : Int) < 3 := by omega
      have hmf : ∀ (fn : Fn) (first cap : Array Value) (w : World), (Instr.makeFunc fn first cap).run Try.prog w = .ok (.func fn first cap) w := fun _ _ _ _ => rfl
      go_wp2_with fail
      refine (CN.out _).mono ?_
      rintro e w2 ⟨p, rfl, hS, hb⟩
      have S2 := Lib.hid hS
      have B2 := Lib.hid (bel_on' B1.out hb)
      clear hS hb CN
      go_upto_region 4 with fail
      refine at_code (S := fun W' => Blk W' w2.heap.size [.pointer (some ⟨p, 0, none⟩)] ∧ Below w2.heap.size w2 W' ∧ w2.heap.size < W'.heap.size) ⟨Blk.new _ _ _, bel_al (Below.refl _ _) _, by simp⟩ (fun W2 hW => ?_)
      obtain ⟨hX, hb, hlt⟩ := hW
      have X2 := Lib.hid hX
      have x_0 := hX.1 0 _ rfl
      have hw12 := Lib.hid (S2.out.on (Below.refl _ _))
      have S2' := Lib.hid (S2.out.grow hb (Y := fun k => k = w2.heap.size) (fun k e => by rw [e]; exact ⟨Nat.le_refl _, hlt⟩))
      have B2' := Lib.hid (bel_on' B2.out hb)
      clear hX hb hlt S2
      have CM2 := Lib.hid (CM.out _ p W2 S2'.out (HL0.out.on B2'.out) (fun b off e hl => Or.inl (by show b < w1.heap.size; have := rw_z HL0.out b off e (by rw [HN.out]; exact hl); have := B1.out.size; omega)) LT.out)
      clear CM S2' hw12
      go_wp2_with fail
      refine CM2.out.mono ?_
      rintro e w3 ⟨v, o, B, ns, rfl, hS, hH, hR, hF⟩
      have hon : o.length = n := by rw [hF.len]; exact HN.out
      obtain ⟨g, cap, hv, hg⟩ := row_form hR (by omega)
      rw [hon] at hg hv
      obtain ⟨Z, hZ⟩ : ∃ Z, Zv (fun k => (fun k => k < w1.heap.size) k ∨ k = w2.heap.size) v = Z := ⟨_, rfl⟩
      have hzl : ∀ k, k < w1.heap.size → Z k := by rw [← hZ]; exact Zv_lt (fun k hk => Or.inl hk)
      have hzx : Z w2.heap.size := by rw [← hZ]; exact Or.inl (Or.inr rfl)
      have x3 := hH.cell (o := 0) (show (fun k => (fun k => k < w1.heap.size) k ∨ k = w2.heap.size) w2.heap.size from Or.inr rfl) x_0
      have hzg : Z g := by rw [← hZ, hv]; exact Or.inr rfl
      rw [hZ] at hS
      have H3 := Lib.hid hH
      have HZL := Lib.hid (And.intro hzl (And.intro hzg hzx))
      have HF := Lib.hid hF
      have HG := Lib.hid hg
      have S3 := Lib.hid hS
      subst hv
      clear CM2 hR hZ hzl hzg hzx hH hF hg hS hon x_0 X2
      obtain ⟨m, hm⟩ : ∃ m, n = m + 2 := ⟨n - 2, by omega⟩
      have hw1 : IntKind.i64.wrap ((n : Int) - 1) = ((m + 1 : Nat) : Int) := by rw [IntKind.wrap_i64]; omega
      have hw2 : IntKind.i64.wrap ((n : Int) - 2) = ((m : Nat) : Int) := by rw [IntKind.wrap_i64]; omega
      have hmn1 : m + 1 < n := by omega
      have hmn : m < n := by omega
      have hn0 : 0 < n := by omega
      have Ff := Lib.hid (HF.out.at_ (i := m + 1) (by rw [HN.out]; exact hmn1))
      have Fg := Lib.hid (HF.out.at_ (i := m) (by rw [HN.out]; exact hmn))
      have Fh := Lib.hid (HF.out.at_ (i := 0) (by rw [HN.out]; exact hn0))
      have g_1 := HG.out (m + 1) hmn1
      have g_2 := HG.out m hmn
      have g_0 := HG.out 0 hn0
      obtain ⟨m1, hm1⟩ : ∃ m1, m + 1 = m1 := ⟨_, rfl⟩
      rw [hm1] at g_1 hmn1 Ff hw1
      obtain ⟨f, hf⟩ : ∃ f, o.getD m1 0 = f := ⟨_, rfl⟩
      obtain ⟨φ, hφ⟩ : ∃ φ, (semL [] L).getD m1 (fun _ => false) = φ := ⟨_, rfl⟩
      obtain ⟨u, hu⟩ : ∃ f, o.getD m 0 = f := ⟨_, rfl⟩
      obtain ⟨ψ, hψ⟩ : ∃ φ, (semL [] L).getD m (fun _ => false) = φ := ⟨_, rfl⟩
      obtain ⟨t, ht⟩ : ∃ f, o.getD 0 0 = f := ⟨_, rfl⟩
      obtain ⟨χ, hχ⟩ : ∃ φ, (semL [] L).getD 0 (fun _ => false) = φ := ⟨_, rfl⟩
      rw [hf] at Ff g_1
      rw [hφ] at Ff
      rw [hu] at Fg g_2
      rw [hψ] at Fg
      rw [ht] at Fh g_0
      rw [hχ] at Fh
      have hl3 := HF.out.most
      have hpw := HF.out.pw
      have WN := Lib.hid S3.out.wf
      have HB := Lib.hid HF.out.bits
      clear hf hφ hu hψ ht hχ HF HG hm hm1
      go_upto_region 10 with fail
      refine wp_region_noPanic ?_
      refine wp_region_along (S := fun w' => w' = w3.drew) ([(0, true), (1, true), (2, true), (3, true), (4, true), (5, true), (6, true), (7, true), (8, true), (9, true), (10, true), (11, true), (12, true), (13, true), (14, true), (15, true)] ++ ([(16, true), (17, true)])) (by kernel_rfl) (by as_aux_lemma => kernel_rfl) (by kernel_rfl) (by kernel_rfl) (alongPre_append _ _ _ (by as_aux_lemma => kernel_rfl) (by as_aux_lemma => kernel_rfl)) (by as_aux_lemma => kernel_rfl) (fun _ _ _ _ _ h => h) rfl (fun hH => ?_)
      simp only [List.cons_append, List.nil_append, stepsOf, pickOp]
      iterate 18 (first | (refine along_skip (by rfl) ?_; try simp only [Act.put, List.setIfInBounds_toArray, List.set_cons_zero, List.set_cons_succ]) | (refine along_pure ?_ (by rfl) (fun w hSw => ?_) ?_; rotate_left; (obtain rfl := hSw; go_simp; try with_reducible rfl); try simp only [Act.put, List.setIfInBounds_toArray, List.set_cons_zero, List.set_cons_succ]))
      refine along_end (NoPanic.normal ?_)
      clear hH
      obtain ⟨w3', hw3⟩ : ∃ x, x = w3.drew := ⟨_, rfl⟩
      have S3' := Lib.hid (show Sta Z p w3' 262144 ns by rw [hw3]; exact S3.out.on (Below.refl _ _).drew)
      have H3' := Lib.hid (show Hold Z w3 w3' by rw [hw3]; exact Hold.of (Below.refl _ _).drew)
      have x3' : w3'.cell? ⟨w2.heap.size, 0, none⟩ = some (.pointer (some ⟨p, 0, none⟩)) := by rw [hw3]; exact x3
      rw [← hw3]
      clear hw3 S3 x3 g_0 g_1 g_2
      have C4 := Lib.hid (bNot S3'.out HB.out Ff.out hpw (by omega))
      go_wp2_with fail
      refine C4.out.mono ?_
      rintro e w4 ⟨q4, ns4, rfl, hS, hH, hO, hT⟩
      have S4 := Lib.hid hS
      have H4 := Lib.hid (H3'.out.trans hH)
      have x4 := hH.cell HZL.out.2.2 x3'
      have hl4 := hO.len
      have O4 := Lib.hid hO
      have W4 := Lib.hid hO.wf
      have Ff' := Lib.hid (hO.st WN.out Ff.out)
      clear Ff
      have Ff := Ff'
      clear Ff'
      have Fg' := Lib.hid (hO.st WN.out Fg.out)
      clear Fg
      have Fg := Fg'
      clear Fg'
      have Fh' := Lib.hid (hO.st WN.out Fh.out)
      clear Fh
      have Fh := Fh'
      clear Fh'
      have T4 := Lib.hid hT
      clear hS hH hO hT C4 S3' x3'
      have C5 := Lib.hid (bNot S4.out O4.out.bits T4.out hpw (by omega))
      go_wp2_with fail
      refine C5.out.mono ?_
      rintro e w5 ⟨q5, ns5, rfl, hS, hH, hO, hT⟩
      have S5 := Lib.hid hS
      have H5 := Lib.hid (H4.out.trans hH)
      have x5 := hH.cell HZL.out.2.2 x4
      have hl5 := hO.len
      have O5 := Lib.hid hO
      have W5 := Lib.hid hO.wf
      have Ff' := Lib.hid (hO.st W4.out Ff.out)
      clear Ff
      have Ff := Ff'
      clear Ff'
      have Fg' := Lib.hid (hO.st W4.out Fg.out)
      clear Fg
      have Fg := Fg'
      clear Fg'
      have Fh' := Lib.hid (hO.st W4.out Fh.out)
      clear Fh
      have Fh := Fh'
      clear Fh'
      have T4' := Lib.hid (hO.st W4.out T4.out)
      clear T4
      have T4 := T4'
      clear T4'
      have T5 := Lib.hid hT
      clear hS hH hO hT C5 S4 x4
      have e5 : q5 = f := St.one W5.out T5.out Ff.out (fun e => by first | (dsimp only; cases φ e <;> rfl) | (cases φ e <;> rfl))
      rw [e5] at T5
      clear T5
      subst e5
      have C6 := Lib.hid (show Calls Try.prog 24 #[.int .i64 0, .int .i64 (q5 : Nat), .int .i64 (q4 : Nat), .pointer (some ⟨w2.heap.size, 0, none⟩)] _ _ from cl_big S5.out O5.out.bits 0 (by omega) Ff.out T4.out hpw (by omega) x5)
      go_wp2_with fail
      refine C6.out.mono ?_
      rintro e w6 ⟨q6, ns6, rfl, hS, hH, hO, hT⟩
      have S6 := Lib.hid hS
      have H6 := Lib.hid (H5.out.trans hH)
      have x6 := hH.cell HZL.out.2.2 x5
      have hl6 := hO.len
      have O6 := Lib.hid hO
      have W6 := Lib.hid hO.wf
      have Ff' := Lib.hid (hO.st W5.out Ff.out)
      clear Ff
      have Ff := Ff'
      clear Ff'
      have Fg' := Lib.hid (hO.st W5.out Fg.out)
      clear Fg
      have Fg := Fg'
      clear Fg'
      have Fh' := Lib.hid (hO.st W5.out Fh.out)
      clear Fh
      have Fh := Fh'
      clear Fh'
      have T4' := Lib.hid (hO.st W5.out T4.out)
      clear T4
      have T4 := T4'
      clear T4'
      have T6 := Lib.hid hT
      clear hS hH hO hT C6 S5 x5
      have e6 : q6 = 0 := St.one W6.out T6.out (St.zero W6.out) (fun e => by first | (dsimp only; cases φ e <;> rfl) | (cases φ e <;> rfl))
      subst e6
      clear T6
      have C7 := Lib.hid (show Calls Try.prog 24 #[.int .i64 1, .int .i64 (q5 : Nat), .int .i64 (q4 : Nat), .pointer (some ⟨w2.heap.size, 0, none⟩)] _ _ from cl_big S6.out O6.out.bits 1 (by omega) Ff.out T4.out hpw (by omega) x6)
      go_wp2_with fail
      refine C7.out.mono ?_
      rintro e w7 ⟨q7, ns7, rfl, hS, hH, hO, hT⟩
      have S7 := Lib.hid hS
      have H7 := Lib.hid (H6.out.trans hH)
      have x7 := hH.cell HZL.out.2.2 x6
      have hl7 := hO.len
      have O7 := Lib.hid hO
      have W7 := Lib.hid hO.wf
      have Ff' := Lib.hid (hO.st W6.out Ff.out)
      clear Ff
      have Ff := Ff'
      clear Ff'
      have Fg' := Lib.hid (hO.st W6.out Fg.out)
      clear Fg
      have Fg := Fg'
      clear Fg'
      have Fh' := Lib.hid (hO.st W6.out Fh.out)
      clear Fh
      have Fh := Fh'
      clear Fh'
      have T7 := Lib.hid hT
      clear hS hH hO hT C7 S6 x6
      have e7 : q7 = 1 := St.one W7.out T7.out (St.top W7.out) (fun e => by first | (dsimp only; cases φ e <;> rfl) | (cases φ e <;> rfl))
      subst e7
      clear T7 T4
      have C8 := Lib.hid (show Calls Try.prog 24 #[.int .i64 0, .int .i64 (q5 : Nat), .int .i64 (u : Nat), .pointer (some ⟨w2.heap.size, 0, none⟩)] _ _ from cl_big S7.out O7.out.bits 0 (by omega) Ff.out Fg.out hpw (by omega) x7)
      go_wp2_with fail
      refine C8.out.mono ?_
      rintro e w8 ⟨q8, ns8, rfl, hS, hH, hO, hT⟩
      have S8 := Lib.hid hS
      have H8 := Lib.hid (H7.out.trans hH)
      have x8 := hH.cell HZL.out.2.2 x7
      have hl8 := hO.len
      have O8 := Lib.hid hO
      have W8 := Lib.hid hO.wf
      have Ff' := Lib.hid (hO.st W7.out Ff.out)
      clear Ff
      have Ff := Ff'
      clear Ff'
      have Fg' := Lib.hid (hO.st W7.out Fg.out)
      clear Fg
      have Fg := Fg'
      clear Fg'
      have Fh' := Lib.hid (hO.st W7.out Fh.out)
      clear Fh
      have Fh := Fh'
      clear Fh'
      have T8 := Lib.hid hT
      clear hS hH hO hT C8 S7 x7
      have C9 := Lib.hid (show Calls Try.prog 24 #[.int .i64 0, .int .i64 (u : Nat), .int .i64 (q5 : Nat), .pointer (some ⟨w2.heap.size, 0, none⟩)] _ _ from cl_big S8.out O8.out.bits 0 (by omega) Fg.out Ff.out hpw (by omega) x8)
      go_wp2_with fail
      refine C9.out.mono ?_
      rintro e w9 ⟨q9, ns9, rfl, hS, hH, hO, hT⟩
      have S9 := Lib.hid hS
      have H9 := Lib.hid (H8.out.trans hH)
      have x9 := hH.cell HZL.out.2.2 x8
      have hl9 := hO.len
      have O9 := Lib.hid hO
      have W9 := Lib.hid hO.wf
      have Ff' := Lib.hid (hO.st W8.out Ff.out)
      clear Ff
      have Ff := Ff'
      clear Ff'
      have Fg' := Lib.hid (hO.st W8.out Fg.out)
      clear Fg
      have Fg := Fg'
      clear Fg'
      have Fh' := Lib.hid (hO.st W8.out Fh.out)
      clear Fh
      have Fh := Fh'
      clear Fh'
      have T8' := Lib.hid (hO.st W8.out T8.out)
      clear T8
      have T8 := T8'
      clear T8'
      have T9 := Lib.hid hT
      clear hS hH hO hT C9 S8 x8
      have e9 : q9 = q8 := St.one W9.out T9.out T8.out (fun e => by first | (dsimp only; cases φ e <;> cases ψ e <;> rfl) | (cases φ e <;> cases ψ e <;> rfl))
      clear T9 T8
      subst e9
      have C10 := Lib.hid (show Calls Try.prog 24 #[.int .i64 0, .int .i64 (q5 : Nat), .int .i64 (u : Nat), .pointer (some ⟨w2.heap.size, 0, none⟩)] _ _ from cl_big S9.out O9.out.bits 0 (by omega) Ff.out Fg.out hpw (by omega) x9)
      go_wp2_with fail
      refine C10.out.mono ?_
      rintro e w10 ⟨q10, ns10, rfl, hS, hH, hO, hT⟩
      have S10 := Lib.hid hS
      have H10 := Lib.hid (H9.out.trans hH)
      have x10 := hH.cell HZL.out.2.2 x9
      have hl10 := hO.len
      have O10 := Lib.hid hO
      have W10 := Lib.hid hO.wf
      have Ff' := Lib.hid (hO.st W9.out Ff.out)
      clear Ff
      have Ff := Ff'
      clear Ff'
      have Fg' := Lib.hid (hO.st W9.out Fg.out)
      clear Fg
      have Fg := Fg'
      clear Fg'
      have Fh' := Lib.hid (hO.st W9.out Fh.out)
      clear Fh
      have Fh := Fh'
      clear Fh'
      have T10 := Lib.hid hT
      clear hS hH hO hT C10 S9 x9
      have C11 := Lib.hid (show Calls Try.prog 24 #[.int .i64 1, .int .i64 (q5 : Nat), .int .i64 (q10 : Nat), .pointer (some ⟨w2.heap.size, 0, none⟩)] _ _ from cl_big S10.out O10.out.bits 1 (by omega) Ff.out T10.out hpw (by omega) x10)
      go_wp2_with fail
      refine C11.out.mono ?_
      rintro e w11 ⟨q11, ns11, rfl, hS, hH, hO, hT⟩
      have S11 := Lib.hid hS
      have H11 := Lib.hid (H10.out.trans hH)
      have x11 := hH.cell HZL.out.2.2 x10
      have hl11 := hO.len
      have O11 := Lib.hid hO
      have W11 := Lib.hid hO.wf
      have Ff' := Lib.hid (hO.st W10.out Ff.out)
      clear Ff
      have Ff := Ff'
      clear Ff'
      have Fg' := Lib.hid (hO.st W10.out Fg.out)
      clear Fg
      have Fg := Fg'
      clear Fg'
      have Fh' := Lib.hid (hO.st W10.out Fh.out)
      clear Fh
      have Fh := Fh'
      clear Fh'
      have T11 := Lib.hid hT
      clear hS hH hO hT C11 S10 x10
      have e11 : q11 = q5 := St.one W11.out T11.out Ff.out (fun e => by first | (dsimp only; cases φ e <;> cases ψ e <;> rfl) | (cases φ e <;> cases ψ e <;> rfl))
      clear T11 T10
      subst e11
      have C12 := Lib.hid (show Calls Try.prog 24 #[.int .i64 3, .int .i64 (q11 : Nat), .int .i64 (u : Nat), .pointer (some ⟨w2.heap.size, 0, none⟩)] _ _ from cl_big S11.out O11.out.bits 3 (by omega) Ff.out Fg.out hpw (by omega) x11)
      go_wp2_with fail
      refine C12.out.mono ?_
      rintro e w12 ⟨q12, ns12, rfl, hS, hH, hO, hT⟩
      have S12 := Lib.hid hS
      have H12 := Lib.hid (H11.out.trans hH)
      have x12 := hH.cell HZL.out.2.2 x11
      have hl12 := hO.len
      have O12 := Lib.hid hO
      have W12 := Lib.hid hO.wf
      have Ff' := Lib.hid (hO.st W11.out Ff.out)
      clear Ff
      have Ff := Ff'
      clear Ff'
      have Fg' := Lib.hid (hO.st W11.out Fg.out)
      clear Fg
      have Fg := Fg'
      clear Fg'
      have Fh' := Lib.hid (hO.st W11.out Fh.out)
      clear Fh
      have Fh := Fh'
      clear Fh'
      have T12 := Lib.hid hT
      clear hS hH hO hT C12 S11 x11
      have C13 := Lib.hid (show Calls Try.prog 24 #[.int .i64 3, .int .i64 1, .int .i64 (u : Nat), .pointer (some ⟨w2.heap.size, 0, none⟩)] _ _ from cl_big S12.out O12.out.bits 3 (by omega) (St.top W12.out) Fg.out hpw (by omega) x12)
      go_wp2_with fail
      refine C13.out.mono ?_
      rintro e w13 ⟨q13, ns13, rfl, hS, hH, hO, hT⟩
      have S13 := Lib.hid hS
      have H13 := Lib.hid (H12.out.trans hH)
      have x13 := hH.cell HZL.out.2.2 x12
      have hl13 := hO.len
      have O13 := Lib.hid hO
      have W13 := Lib.hid hO.wf
      have Ff' := Lib.hid (hO.st W12.out Ff.out)
      clear Ff
      have Ff := Ff'
      clear Ff'
      have Fg' := Lib.hid (hO.st W12.out Fg.out)
      clear Fg
      have Fg := Fg'
      clear Fg'
      have Fh' := Lib.hid (hO.st W12.out Fh.out)
      clear Fh
      have Fh := Fh'
      clear Fh'
      have T12' := Lib.hid (hO.st W12.out T12.out)
      clear T12
      have T12 := T12'
      clear T12'
      have T13 := Lib.hid hT
      clear hS hH hO hT C13 S12 x12
      have C14 := Lib.hid (show Calls Try.prog 24 #[.int .i64 0, .int .i64 (q11 : Nat), .int .i64 (q13 : Nat), .pointer (some ⟨w2.heap.size, 0, none⟩)] _ _ from cl_big S13.out O13.out.bits 0 (by omega) Ff.out T13.out hpw (by omega) x13)
      go_wp2_with fail
      refine C14.out.mono ?_
      rintro e w14 ⟨q14, ns14, rfl, hS, hH, hO, hT⟩
      have S14 := Lib.hid hS
      have H14 := Lib.hid (H13.out.trans hH)
      have x14 := hH.cell HZL.out.2.2 x13
      have hl14 := hO.len
      have O14 := Lib.hid hO
      have W14 := Lib.hid hO.wf
      have Ff' := Lib.hid (hO.st W13.out Ff.out)
      clear Ff
      have Ff := Ff'
      clear Ff'
      have Fg' := Lib.hid (hO.st W13.out Fg.out)
      clear Fg
      have Fg := Fg'
      clear Fg'
      have Fh' := Lib.hid (hO.st W13.out Fh.out)
      clear Fh
      have Fh := Fh'
      clear Fh'
      have T12' := Lib.hid (hO.st W13.out T12.out)
      clear T12
      have T12 := T12'
      clear T12'
      have T14 := Lib.hid hT
      clear hS hH hO hT C14 S13 x13
      have e14 : q14 = q12 := St.one W14.out T14.out T12.out (fun e => by first | (dsimp only; cases φ e <;> cases ψ e <;> rfl) | (cases φ e <;> cases ψ e <;> rfl))
      clear T14 T13 T12
      subst e14
      have C15 := Lib.hid (show Calls Try.prog 24 #[.int .i64 1, .int .i64 (u : Nat), .int .i64 (t : Nat), .pointer (some ⟨w2.heap.size, 0, none⟩)] _ _ from cl_big S14.out O14.out.bits 1 (by omega) Fg.out Fh.out hpw (by omega) x14)
      go_wp2_with fail
      refine C15.out.mono ?_
      rintro e w15 ⟨q15, ns15, rfl, hS, hH, hO, hT⟩
      have S15 := Lib.hid hS
      have H15 := Lib.hid (H14.out.trans hH)
      have x15 := hH.cell HZL.out.2.2 x14
      have hl15 := hO.len
      have O15 := Lib.hid hO
      have W15 := Lib.hid hO.wf
      have Ff' := Lib.hid (hO.st W14.out Ff.out)
      clear Ff
      have Ff := Ff'
      clear Ff'
      have Fg' := Lib.hid (hO.st W14.out Fg.out)
      clear Fg
      have Fg := Fg'
      clear Fg'
      have Fh' := Lib.hid (hO.st W14.out Fh.out)
      clear Fh
      have Fh := Fh'
      clear Fh'
      have T15 := Lib.hid hT
      clear hS hH hO hT C15 S14 x14
      have C16 := Lib.hid (show Calls Try.prog 24 #[.int .i64 0, .int .i64 (q11 : Nat), .int .i64 (q15 : Nat), .pointer (some ⟨w2.heap.size, 0, none⟩)] _ _ from cl_big S15.out O15.out.bits 0 (by omega) Ff.out T15.out hpw (by omega) x15)
      go_wp2_with fail
      refine C16.out.mono ?_
      rintro e w16 ⟨q16, ns16, rfl, hS, hH, hO, hT⟩
      have S16 := Lib.hid hS
      have H16 := Lib.hid (H15.out.trans hH)
      have x16 := hH.cell HZL.out.2.2 x15
      have hl16 := hO.len
      have O16 := Lib.hid hO
      have W16 := Lib.hid hO.wf
      have Ff' := Lib.hid (hO.st W15.out Ff.out)
      clear Ff
      have Ff := Ff'
      clear Ff'
      have Fg' := Lib.hid (hO.st W15.out Fg.out)
      clear Fg
      have Fg := Fg'
      clear Fg'
      have Fh' := Lib.hid (hO.st W15.out Fh.out)
      clear Fh
      have Fh := Fh'
      clear Fh'
      have T16 := Lib.hid hT
      clear hS hH hO hT C16 S15 x15
      clear T15
      have C17 := Lib.hid (show Calls Try.prog 24 #[.int .i64 0, .int .i64 (q11 : Nat), .int .i64 (u : Nat), .pointer (some ⟨w2.heap.size, 0, none⟩)] _ _ from cl_big S16.out O16.out.bits 0 (by omega) Ff.out Fg.out hpw (by omega) x16)
      go_wp2_with fail
      refine C17.out.mono ?_
      rintro e w17 ⟨q17, ns17, rfl, hS, hH, hO, hT⟩
      have S17 := Lib.hid hS
      have H17 := Lib.hid (H16.out.trans hH)
      have x17 := hH.cell HZL.out.2.2 x16
      have hl17 := hO.len
      have O17 := Lib.hid hO
      have W17 := Lib.hid hO.wf
      have Ff' := Lib.hid (hO.st W16.out Ff.out)
      clear Ff
      have Ff := Ff'
      clear Ff'
      have Fg' := Lib.hid (hO.st W16.out Fg.out)
      clear Fg
      have Fg := Fg'
      clear Fg'
      have Fh' := Lib.hid (hO.st W16.out Fh.out)
      clear Fh
      have Fh := Fh'
      clear Fh'
      have T16' := Lib.hid (hO.st W16.out T16.out)
      clear T16
      have T16 := T16'
      clear T16'
      have T17 := Lib.hid hT
      clear hS hH hO hT C17 S16 x16
      have C18 := Lib.hid (show Calls Try.prog 24 #[.int .i64 0, .int .i64 (q11 : Nat), .int .i64 (t : Nat), .pointer (some ⟨w2.heap.size, 0, none⟩)] _ _ from cl_big S17.out O17.out.bits 0 (by omega) Ff.out Fh.out hpw (by omega) x17)
      go_wp2_with fail
      refine C18.out.mono ?_
      rintro e w18 ⟨q18, ns18, rfl, hS, hH, hO, hT⟩
      have S18 := Lib.hid hS
      have H18 := Lib.hid (H17.out.trans hH)
      have x18 := hH.cell HZL.out.2.2 x17
      have hl18 := hO.len
      have O18 := Lib.hid hO
      have W18 := Lib.hid hO.wf
      have Ff' := Lib.hid (hO.st W17.out Ff.out)
      clear Ff
      have Ff := Ff'
      clear Ff'
      have Fg' := Lib.hid (hO.st W17.out Fg.out)
      clear Fg
      have Fg := Fg'
      clear Fg'
      have Fh' := Lib.hid (hO.st W17.out Fh.out)
      clear Fh
      have Fh := Fh'
      clear Fh'
      have T16' := Lib.hid (hO.st W17.out T16.out)
      clear T16
      have T16 := T16'
      clear T16'
      have T17' := Lib.hid (hO.st W17.out T17.out)
      clear T17
      have T17 := T17'
      clear T17'
      have T18 := Lib.hid hT
      clear hS hH hO hT C18 S17 x17
      have C19 := Lib.hid (show Calls Try.prog 24 #[.int .i64 1, .int .i64 (q17 : Nat), .int .i64 (q18 : Nat), .pointer (some ⟨w2.heap.size, 0, none⟩)] _ _ from cl_big S18.out O18.out.bits 1 (by omega) T17.out T18.out hpw (by omega) x18)
      go_wp2_with fail
      refine C19.out.mono ?_
      rintro e w19 ⟨q19, ns19, rfl, hS, hH, hO, hT⟩
      have S19 := Lib.hid hS
      have H19 := Lib.hid (H18.out.trans hH)
      have x19 := hH.cell HZL.out.2.2 x18
      have hl19 := hO.len
      have O19 := Lib.hid hO
      have W19 := Lib.hid hO.wf
      have Ff' := Lib.hid (hO.st W18.out Ff.out)
      clear Ff
      have Ff := Ff'
      clear Ff'
      have Fg' := Lib.hid (hO.st W18.out Fg.out)
      clear Fg
      have Fg := Fg'
      clear Fg'
      have Fh' := Lib.hid (hO.st W18.out Fh.out)
      clear Fh
      have Fh := Fh'
      clear Fh'
      have T16' := Lib.hid (hO.st W18.out T16.out)
      clear T16
      have T16 := T16'
      clear T16'
      have T19 := Lib.hid hT
      clear hS hH hO hT C19 S18 x18
      have e19 : q19 = q16 := St.one W19.out T19.out T16.out (fun e => by first | (dsimp only; cases φ e <;> cases ψ e <;> cases χ e <;> rfl) | (cases φ e <;> cases ψ e <;> cases χ e <;> rfl))
      clear T19 T18 T17 T16
      subst e19
      have C20 := Lib.hid (show Calls Try.prog 24 #[.int .i64 2, .int .i64 (q11 : Nat), .int .i64 (u : Nat), .pointer (some ⟨w2.heap.size, 0, none⟩)] _ _ from cl_big S19.out O19.out.bits 2 (by omega) Ff.out Fg.out hpw (by omega) x19)
      go_wp2_with fail
      refine C20.out.mono ?_
      rintro e w20 ⟨q20, ns20, rfl, hS, hH, hO, hT⟩
      have S20 := Lib.hid hS
      have H20 := Lib.hid (H19.out.trans hH)
      have x20 := hH.cell HZL.out.2.2 x19
      have hl20 := hO.len
      have O20 := Lib.hid hO
      have W20 := Lib.hid hO.wf
      have Ff' := Lib.hid (hO.st W19.out Ff.out)
      clear Ff
      have Ff := Ff'
      clear Ff'
      have Fg' := Lib.hid (hO.st W19.out Fg.out)
      clear Fg
      have Fg := Fg'
      clear Fg'
      have Fh' := Lib.hid (hO.st W19.out Fh.out)
      clear Fh
      have Fh := Fh'
      clear Fh'
      have T20 := Lib.hid hT
      clear hS hH hO hT C20 S19 x19
      have C21 := Lib.hid (show Calls Try.prog 24 #[.int .i64 2, .int .i64 (q20 : Nat), .int .i64 (u : Nat), .pointer (some ⟨w2.heap.size, 0, none⟩)] _ _ from cl_big S20.out O20.out.bits 2 (by omega) T20.out Fg.out hpw (by omega) x20)
      go_wp2_with fail
      refine C21.out.mono ?_
      rintro e w21 ⟨q21, ns21, rfl, hS, hH, hO, hT⟩
      have S21 := Lib.hid hS
      have H21 := Lib.hid (H20.out.trans hH)
      have x21 := hH.cell HZL.out.2.2 x20
      have hl21 := hO.len
      have O21 := Lib.hid hO
      have W21 := Lib.hid hO.wf
      have Ff' := Lib.hid (hO.st W20.out Ff.out)
      clear Ff
      have Ff := Ff'
      clear Ff'
      have Fg' := Lib.hid (hO.st W20.out Fg.out)
      clear Fg
      have Fg := Fg'
      clear Fg'
      have Fh' := Lib.hid (hO.st W20.out Fh.out)
      clear Fh
      have Fh := Fh'
      clear Fh'
      have T21 := Lib.hid hT
      clear hS hH hO hT C21 S20 x20
      have e21 : q21 = q11 := St.one W21.out T21.out Ff.out (fun e => by first | (dsimp only; cases φ e <;> cases ψ e <;> rfl) | (cases φ e <;> cases ψ e <;> rfl))
      clear T21 T20
      subst e21
      have C22 := Lib.hid (bIte S21.out O21.out.bits Ff.out Fg.out Fh.out (c := 3072) (by omega) (by omega))
      go_wp2_with fail
      refine C22.out.mono ?_
      rintro e w22 ⟨q22, ns22, rfl, hS, hH, hO, hT⟩
      have S22 := Lib.hid hS
      have H22 := Lib.hid (H21.out.trans hH)
      have x22 := hH.cell HZL.out.2.2 x21
      have hl22 := hO.len
      have O22 := Lib.hid hO
      have W22 := Lib.hid hO.wf
      have Ff' := Lib.hid (hO.st W21.out Ff.out)
      clear Ff
      have Ff := Ff'
      clear Ff'
      have Fg' := Lib.hid (hO.st W21.out Fg.out)
      clear Fg
      have Fg := Fg'
      clear Fg'
      have Fh' := Lib.hid (hO.st W21.out Fh.out)
      clear Fh
      have Fh := Fh'
      clear Fh'
      have T22 := Lib.hid hT
      clear hS hH hO hT C22 S21 x21
      go_wp2_with fail
      refine (CA.out _).mono ?_
      rintro e wA ⟨rfl, hb⟩
      have SA := Lib.hid (S22.out.on hb)
      have HA := Lib.hid (H22.out.trans (Hold.of hb))
      have xA := (Hold.of (Z := Z) hb).cell HZL.out.2.2 x22
      clear hb S22 x22
      have C23 := Lib.hid (show Calls Try.prog 24 #[.int .i64 0, .int .i64 (q21 : Nat), .int .i64 (u : Nat), .pointer (some ⟨w2.heap.size, 0, none⟩)] _ _ from cl_big SA.out O22.out.bits 0 (by omega) Ff.out Fg.out hpw (by omega) xA)
      go_wp2_with fail
      refine C23.out.mono ?_
      rintro e w23 ⟨q23, ns23, rfl, hS, hH, hO, hT⟩
      have S23 := Lib.hid hS
      have H23 := Lib.hid (HA.out.trans hH)
      have x23 := hH.cell HZL.out.2.2 xA
      have hl23 := hO.len
      have O23 := Lib.hid hO
      have W23 := Lib.hid hO.wf
      have Ff' := Lib.hid (hO.st W22.out Ff.out)
      clear Ff
      have Ff := Ff'
      clear Ff'
      have Fg' := Lib.hid (hO.st W22.out Fg.out)
      clear Fg
      have Fg := Fg'
      clear Fg'
      have Fh' := Lib.hid (hO.st W22.out Fh.out)
      clear Fh
      have Fh := Fh'
      clear Fh'
      have T22' := Lib.hid (hO.st W22.out T22.out)
      clear T22
      have T22 := T22'
      clear T22'
      have T23 := Lib.hid hT
      clear hS hH hO hT C23 SA xA
      have C24 := Lib.hid (show Calls Try.prog 24 #[.int .i64 3, .int .i64 (t : Nat), .int .i64 (q21 : Nat), .pointer (some ⟨w2.heap.size, 0, none⟩)] _ _ from cl_big S23.out O23.out.bits 3 (by omega) Fh.out Ff.out hpw (by omega) x23)
      go_wp2_with fail
      refine C24.out.mono ?_
      rintro e w24 ⟨q24, ns24, rfl, hS, hH, hO, hT⟩
      have S24 := Lib.hid hS
      have H24 := Lib.hid (H23.out.trans hH)
      have x24 := hH.cell HZL.out.2.2 x23
      have hl24 := hO.len
      have O24 := Lib.hid hO
      have W24 := Lib.hid hO.wf
      have Ff' := Lib.hid (hO.st W23.out Ff.out)
      clear Ff
      have Ff := Ff'
      clear Ff'
      have Fg' := Lib.hid (hO.st W23.out Fg.out)
      clear Fg
      have Fg := Fg'
      clear Fg'
      have Fh' := Lib.hid (hO.st W23.out Fh.out)
      clear Fh
      have Fh := Fh'
      clear Fh'
      have T22' := Lib.hid (hO.st W23.out T22.out)
      clear T22
      have T22 := T22'
      clear T22'
      have T23' := Lib.hid (hO.st W23.out T23.out)
      clear T23
      have T23 := T23'
      clear T23'
      have T24 := Lib.hid hT
      clear hS hH hO hT C24 S23 x23
      have C25 := Lib.hid (show Calls Try.prog 24 #[.int .i64 1, .int .i64 (q23 : Nat), .int .i64 (q24 : Nat), .pointer (some ⟨w2.heap.size, 0, none⟩)] _ _ from cl_big S24.out O24.out.bits 1 (by omega) T23.out T24.out hpw (by omega) x24)
      go_wp2_with fail
      refine C25.out.mono ?_
      rintro e w25 ⟨q25, ns25, rfl, hS, hH, hO, hT⟩
      have S25 := Lib.hid hS
      have H25 := Lib.hid (H24.out.trans hH)
      have x25 := hH.cell HZL.out.2.2 x24
      have hl25 := hO.len
      have O25 := Lib.hid hO
      have W25 := Lib.hid hO.wf
      have T22' := Lib.hid (hO.st W24.out T22.out)
      clear T22
      have T22 := T22'
      clear T22'
      have T25 := Lib.hid hT
      clear hS hH hO hT C25 S24 x24
      have e25 : q25 = q22 := St.one W25.out T25.out T22.out (fun e => by first | (dsimp only; cases φ e <;> cases ψ e <;> cases χ e <;> rfl) | (cases φ e <;> cases ψ e <;> cases χ e <;> rfl))
      clear T25 T22
      subst e25
      have FIN := Lib.hid (show Below W.heap.size W w25 from (B2'.out.trans (H3.out.below B2'.out.size (fun k hk => Or.inl (by show k < w1.heap.size; have := B1.out.size; omega)))).trans (H25.out.below (Nat.le_trans B2'.out.size H3.out.size) (fun k hk => HZL.out.1 k (by have := B1.out.size; omega))))
      go_wp2
      go_ret
      exact ⟨rfl, FIN.out⟩
end Go.Proofs.Ytioanjpeddipmaa
