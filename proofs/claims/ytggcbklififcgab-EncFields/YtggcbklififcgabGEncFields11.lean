/- Texts joined, in their order: F6, HF, RO. -/
import Derived.Test.YtggcbklififcgabGEncFields10
import Derived.Test.YtggcbklififcgabGEncFields7
import Derived.Test.YtggcbklififcgabGEncFields3
import Derived.ProofKit
import Derived.OpenShut
import Derived.Lib.SmallJoins
import Derived.LaidMore
import Derived.Stop.Joined
import Derived.Test.YtggcbklififcgabGEncFields0
/- EncFields: any field, prefix, range and header. -/
namespace Go.Proofs.Ytggcbklififcgab
open Go.RowKit
set_option linter.unusedVariables false

/-- What a refused call leaves. -/
theorem ref_of {Z : Nat → Prop} {p : Nat} {w : World} {ns : List Nd} {c : Int} {P : Nat → List Nd → Prop} (hS : Sta Z p w 262144 ns) (hP : P 0 ns) {f : Nat} {args : Array Value}
    (h : Calls Try.prog f args w fun e w' => e = .returned (.tuple #[.int .i64 0, .int .i64 c]) ∧ Below w.heap.size w w') :
    Calls Try.prog f args w fun e w' => ∃ (g : Nat) (ns1 : List Nd), e = .returned (.tuple #[.int .i64 (g : Nat), .int .i64 c]) ∧ Sta Z p w' 262144 ns1 ∧ Hold Z w w' ∧ P g ns1 :=
  h.mono fun e w' ⟨h1, h2⟩ => ⟨0, ns, h1, hS.on h2, Hold.of h2, hP⟩
/-- What a call with room enough leaves. -/
theorem lv_of {Z : Nat → Prop} {p : Nat} {W w' : World} {ns : List Nd} {R : Option Nat × List Nd} {φ : Env → Bool} {c l hi : Nat} {D : (Nat → Bool) → Prop} {e : Ending} (hG : Got2 Z p 262144 R W e w') (hL : Lv 262144 ns R φ c l hi D) (hc : ns.length + c < 262144) :
    ∃ (g : Nat) (ns1 : List Nd), e = .returned (.tuple #[.int .i64 (g : Nat), .int .i64 0]) ∧ Sta Z p w' 262144 ns1 ∧ Hold Z W w' ∧ Gd ns ns1 g φ c l hi D := by
  rcases got2_cases hG with ⟨hr, -⟩ | ⟨q, hr, h1, h2, h3⟩
  · obtain ⟨x, -⟩ := hL.none hr; omega
  · exact ⟨q, R.2, h1, h2, h3, hL.some q hr⟩
theorem pre_of {Z : Nat → Prop} {p : Nat} {W : World} {ns : List Nd} {v : Value} {f A k a : Nat} (hS : Sta Z p W 262144 ns) (h104 : a + k ≤ 104) (hc : ns.length + k < 262144)
    (h : Calls Try.prog 10 #[.pointer (some ⟨p, 0, none⟩), .int .i64 (f : Nat), v] W (Got2 Z p 262144 (cF 262144 ns (fl A A 0 0 0 a k)) W)) :
    Calls Try.prog 10 #[.pointer (some ⟨p, 0, none⟩), .int .i64 (f : Nat), v] W fun e w' => ∃ (g : Nat) (ns1 : List Nd), e = .returned (.tuple #[.int .i64 (g : Nat), .int .i64 0]) ∧ Sta Z p w' 262144 ns1 ∧ Hold Z W w' ∧ Gd ns ns1 g (allB (fl A A 0 0 0 a k)) k k 104 (fun B => ∀ i, i < k → B (a + i) = true) := by
  have hr := fl_rise A A 0 0 0 a k h104
  obtain ⟨L, -⟩ := cF_lv 262144 104 hS.wf hr.1 hr.2 hr.2
  rw [fl_len] at L
  have L' : Lv 262144 ns (cF 262144 ns (fl A A 0 0 0 a k)) (allB (fl A A 0 0 0 a k)) k k 104 (fun B => ∀ i, i < k → B (a + i) = true) := ⟨fun q hq => (L.some q hq).mono (Nat.le_refl _) (Nat.le_refl _) (Nat.le_refl _) (fun B hB p hp => by
    obtain ⟨i, hi, e⟩ := fl_mem hp
    rw [e]; exact hB i hi), L.none⟩
  exact h.mono fun e w' hG => lv_of hG L' hc
theorem rng_of {Z : Nat → Prop} {p : Nat} {W : World} {ns : List Nd} (hS : Sta Z p W 262144 ns) (a lo hi : Nat) (ha : a = 72 ∨ a = 88) (hlo : lo < 65536) (hhi : hi < 65536) (hle : lo ≤ hi) (hc : ns.length + 352 < 262144) :
    Calls Try.prog 15 #[.pointer (some ⟨p, 0, none⟩), .int .i64 (a : Nat), .agg #[.int .u16 (lo : Nat), .int .u16 (hi : Nat)]] W fun e w' => ∃ (g : Nat) (ns1 : List Nd), e = .returned (.tuple #[.int .i64 (g : Nat), .int .i64 0]) ∧ Sta Z p w' 262144 ns1 ∧ Hold Z W w' ∧ Gd ns ns1 g (rgP a lo hi) 352 320 (a + 16) (fun B => ∀ i, i < 16 → B (a + i) = true) :=
  (range_any hS a lo hi ha hlo hhi hle).mono fun e w' ⟨R, hG, hL, _⟩ => lv_of hG hL hc
theorem in_of {Z : Nat → Prop} {p : Nat} {w : World} {ns : List Nd} {g d s q x y : Nat} {φ : Env → Bool} {T : Bool} (h : Sta Z p w 262144 ns) (hg : St ns g φ) (hh : HB d s q x y) (hT : φ (hE d s q x y) = T) :
    Calls Try.prog 12 #[.pointer (some ⟨p, 0, none⟩), .int .i64 (g : Nat), hv d s q x y] w fun e w' => e = .returned (.bool T) ∧ Below w.heap.size w w' := by
  have k := sIn h g d s q x y hh hg.1
  rw [hg.2, hT] at k
  exact k
theorem right_k {A : Nat} {n : Int} (h : rightB A n = true) : ∃ k : Nat, n = (k : Nat) ∧ k ≤ 32 := by
  unfold rightB at h
  rw [decide_eq_true_eq] at h
  obtain ⟨k, rfl⟩ := Int.eq_ofNat_of_zero_le h.1
  exact ⟨k, rfl, by omega⟩
theorem encFields_any (f : Int) (A : Nat) (n : Int) (lo hi d s q x y : Nat) (hA : A < 4294967296) (hlo : lo < 65536) (hhi : hi < 65536) (hh : HB d s q x y) (W : World) :
    Calls Try.prog 3 #[.int .i64 f, pv A n, .agg #[.int .u16 (lo : Nat), .int .u16 (hi : Nat)], hv d s q x y] W fun e w' => e = .returned (.bool true) ∧ Below W.heap.size W w' := by
  have hpv : ∃ a n', pv (A : Int) n = .agg #[.int .u32 a, .int .i64 n'] := ⟨_, _, rfl⟩
  by_cases c0 : f = 0
  · subst c0
    cases hr : rightB A n with
    | false =>
      exact ef_bad (PP := fun _ ns => ns = [bot, top]) (PR := fun _ _ => True) 0 A n lo hi d s q x y d 0 W (Lib.hid (fun w => raddr_dst d s q x y w)) (Lib.hid (fun w => rport_no d s q x y 0 (by decide) (by decide) w))
        (Lib.hid (fun Z p w hS => ref_of hS rfl (prefixD_bad p A n hA hr w))) (Lib.hid (fun Z p w g ns1 hP hS => ref_of hS trivial (range_field p 0 (by decide) (by decide) lo hi w))) (Lib.hid (fun w => by have k := rright_any A n hA w; rw [hr] at k; exact k))
    | true =>
      obtain ⟨k, rfl, hk⟩ := right_k hr
      exact ef_pre (PP := fun g ns => Gd [bot, top] ns g (allB (fl A A 0 0 0 0 k)) k k 104 (fun B => ∀ i, i < k → B (0 + i) = true)) (PR := fun _ _ => True) 0 A (k : Nat) lo hi d s q x y d 0 (decide (d / sz k = A / sz k)) W (Lib.hid (fun w => raddr_dst d s q x y w)) (Lib.hid (fun w => rport_no d s q x y 0 (by decide) (by decide) w))
        (Lib.hid (fun Z p w hS => pre_of hS (by omega) (by show 2 + k < _; omega) (prefixD_any hS A k hA hk hr))) (Lib.hid (fun Z p w g ns1 hP hS => ref_of hS trivial (range_field p 0 (by decide) (by decide) lo hi w)))
        (Lib.hid (fun w => by have k' := rright_any A (k : Nat) hA w; rw [hr] at k'; exact k')) (Lib.hid (fun Z p w g ns1 hP hS => in_of hS hP.st hh (fl_dst hA hk hh))) (Lib.hid (fun w => rhas_any A k d hk hA hh.d w))
  by_cases c1 : f = 32
  · subst c1
    cases hr : rightB A n with
    | false =>
      exact ef_bad (PP := fun _ ns => ns = [bot, top]) (PR := fun _ _ => True) 32 A n lo hi d s q x y s 0 W (Lib.hid (fun w => raddr_src d s q x y w)) (Lib.hid (fun w => rport_no d s q x y 32 (by decide) (by decide) w))
        (Lib.hid (fun Z p w hS => ref_of hS rfl (prefixS_bad p A n hA hr w))) (Lib.hid (fun Z p w g ns1 hP hS => ref_of hS trivial (range_field p 32 (by decide) (by decide) lo hi w))) (Lib.hid (fun w => by have k := rright_any A n hA w; rw [hr] at k; exact k))
    | true =>
      obtain ⟨k, rfl, hk⟩ := right_k hr
      exact ef_pre (PP := fun g ns => Gd [bot, top] ns g (allB (fl A A 0 0 0 32 k)) k k 104 (fun B => ∀ i, i < k → B (32 + i) = true)) (PR := fun _ _ => True) 32 A (k : Nat) lo hi d s q x y s 0 (decide (s / sz k = A / sz k)) W (Lib.hid (fun w => raddr_src d s q x y w)) (Lib.hid (fun w => rport_no d s q x y 32 (by decide) (by decide) w))
        (Lib.hid (fun Z p w hS => pre_of hS (by omega) (by show 2 + k < _; omega) (prefixS_any hS A k hA hk hr))) (Lib.hid (fun Z p w g ns1 hP hS => ref_of hS trivial (range_field p 32 (by decide) (by decide) lo hi w)))
        (Lib.hid (fun w => by have k' := rright_any A (k : Nat) hA w; rw [hr] at k'; exact k')) (Lib.hid (fun Z p w g ns1 hP hS => in_of hS hP.st hh (fl_src hA hk hh))) (Lib.hid (fun w => rhas_any A k s hk hA hh.s w))
  have CPx : Hid (∀ Z p w, Sta Z p w 262144 [bot, top] → Calls Try.prog 10 #[.pointer (some ⟨p, 0, none⟩), .int .i64 f, pv A n] w fun e w' => ∃ (g : Nat) (ns1 : List Nd), e = .returned (.tuple #[.int .i64 (g : Nat), .int .i64 1]) ∧ Sta Z p w' 262144 ns1 ∧ Hold Z w w' ∧ ns1 = [bot, top]) :=
    Lib.hid (fun Z p w hS => ref_of (P := fun _ ns => ns = [bot, top]) hS rfl (prefix_field p f c0 c1 _ hpv w))
  by_cases c2 : f = 72
  · subst c2
    by_cases hgt : hi < lo
    · exact ef_bounds (PP := fun _ ns => ns = [bot, top]) (PR := fun _ _ => True) 72 A n lo hi d s q x y 0 x (by omega) W (Lib.hid (fun w => raddr_no d s q x y 72 (by decide) (by decide) w)) (Lib.hid (fun w => rport_s d s q x y w)) CPx
        (Lib.hid (fun Z p w g ns1 hP hS => ref_of hS trivial (range_bounds p 72 (Or.inl rfl) lo hi hgt w)))
    · have hle : ¬ (hi : Int) < (lo : Int) := by omega
      have CRg : Hid (∀ Z p w g ns1, ns1 = [bot, top] → Sta Z p w 262144 ns1 → Calls Try.prog 15 #[.pointer (some ⟨p, 0, none⟩), .int .i64 72, .agg #[.int .u16 (lo : Nat), .int .u16 (hi : Nat)]] w fun e w' => ∃ (g : Nat) (ns2 : List Nd), e = .returned (.tuple #[.int .i64 (g : Nat), .int .i64 0]) ∧ Sta Z p w' 262144 ns2 ∧ Hold Z w w' ∧ Gd [bot, top] ns2 g (rgP 72 lo hi) 352 320 (72 + 16) (fun B => ∀ i, i < 16 → B (72 + i) = true)) :=
        Lib.hid (fun Z p w (g : Nat) ns1 hP hS => by subst hP; exact rng_of hS 72 lo hi (Or.inl rfl) hlo hhi (by omega) (by decide))
      by_cases h1 : lo ≤ x
      · by_cases h2 : x ≤ hi
        · exact ef_in (PP := fun _ ns => ns = [bot, top]) 72 A n lo hi d s q x y 0 x hle (by omega) (by omega) W (Lib.hid (fun w => raddr_no d s q x y 72 (by decide) (by decide) w)) (Lib.hid (fun w => rport_s d s q x y w)) CPx CRg
            (Lib.hid (fun Z p w g ns2 hP hS => in_of hS hP.st hh (by rw [rg_sp hlo hhi hh]; exact decide_eq_true ⟨h1, h2⟩)))
        · exact ef_high (PP := fun _ ns => ns = [bot, top]) 72 A n lo hi d s q x y 0 x hle (by omega) (decide_eq_false h2) W (Lib.hid (fun w => raddr_no d s q x y 72 (by decide) (by decide) w)) (Lib.hid (fun w => rport_s d s q x y w)) CPx CRg
            (Lib.hid (fun Z p w g ns2 hP hS => in_of hS hP.st hh (by rw [rg_sp hlo hhi hh]; exact decide_eq_false (fun q => h2 q.2))))
      · exact ef_low (PP := fun _ ns => ns = [bot, top]) 72 A n lo hi d s q x y 0 x hle (decide_eq_false h1) W (Lib.hid (fun w => raddr_no d s q x y 72 (by decide) (by decide) w)) (Lib.hid (fun w => rport_s d s q x y w)) CPx CRg
          (Lib.hid (fun Z p w g ns2 hP hS => in_of hS hP.st hh (by rw [rg_sp hlo hhi hh]; exact decide_eq_false (fun q => h1 q.1))))
  by_cases c3 : f = 88
  · subst c3
    by_cases hgt : hi < lo
    · exact ef_bounds (PP := fun _ ns => ns = [bot, top]) (PR := fun _ _ => True) 88 A n lo hi d s q x y 0 y (by omega) W (Lib.hid (fun w => raddr_no d s q x y 88 (by decide) (by decide) w)) (Lib.hid (fun w => rport_d d s q x y w)) CPx
        (Lib.hid (fun Z p w g ns1 hP hS => ref_of hS trivial (range_bounds p 88 (Or.inr rfl) lo hi hgt w)))
    · have hle : ¬ (hi : Int) < (lo : Int) := by omega
      have CRg : Hid (∀ Z p w g ns1, ns1 = [bot, top] → Sta Z p w 262144 ns1 → Calls Try.prog 15 #[.pointer (some ⟨p, 0, none⟩), .int .i64 88, .agg #[.int .u16 (lo : Nat), .int .u16 (hi : Nat)]] w fun e w' => ∃ (g : Nat) (ns2 : List Nd), e = .returned (.tuple #[.int .i64 (g : Nat), .int .i64 0]) ∧ Sta Z p w' 262144 ns2 ∧ Hold Z w w' ∧ Gd [bot, top] ns2 g (rgP 88 lo hi) 352 320 (88 + 16) (fun B => ∀ i, i < 16 → B (88 + i) = true)) :=
        Lib.hid (fun Z p w (g : Nat) ns1 hP hS => by subst hP; exact rng_of hS 88 lo hi (Or.inr rfl) hlo hhi (by omega) (by decide))
      by_cases h1 : lo ≤ y
      · by_cases h2 : y ≤ hi
        · exact ef_in (PP := fun _ ns => ns = [bot, top]) 88 A n lo hi d s q x y 0 y hle (by omega) (by omega) W (Lib.hid (fun w => raddr_no d s q x y 88 (by decide) (by decide) w)) (Lib.hid (fun w => rport_d d s q x y w)) CPx CRg
            (Lib.hid (fun Z p w g ns2 hP hS => in_of hS hP.st hh (by rw [rg_dp hlo hhi hh]; exact decide_eq_true ⟨h1, h2⟩)))
        · exact ef_high (PP := fun _ ns => ns = [bot, top]) 88 A n lo hi d s q x y 0 y hle (by omega) (decide_eq_false h2) W (Lib.hid (fun w => raddr_no d s q x y 88 (by decide) (by decide) w)) (Lib.hid (fun w => rport_d d s q x y w)) CPx CRg
            (Lib.hid (fun Z p w g ns2 hP hS => in_of hS hP.st hh (by rw [rg_dp hlo hhi hh]; exact decide_eq_false (fun q => h2 q.2))))
      · exact ef_low (PP := fun _ ns => ns = [bot, top]) 88 A n lo hi d s q x y 0 y hle (decide_eq_false h1) W (Lib.hid (fun w => raddr_no d s q x y 88 (by decide) (by decide) w)) (Lib.hid (fun w => rport_d d s q x y w)) CPx CRg
          (Lib.hid (fun Z p w g ns2 hP hS => in_of hS hP.st hh (by rw [rg_dp hlo hhi hh]; exact decide_eq_false (fun q => h1 q.1))))
  · exact ef_none (PP := fun _ ns => ns = [bot, top]) (PR := fun _ _ => True) f A n lo hi d s q x y 0 0 W (Lib.hid (fun w => raddr_no d s q x y f c0 c1 w)) (Lib.hid (fun w => rport_no d s q x y f c2 c3 w)) CPx
      (Lib.hid (fun Z p w g ns1 hP hS => ref_of hS trivial (range_field p f c2 c3 lo hi w)))
end Go.Proofs.Ytggcbklififcgab
/- How a header that is handed in reads, and reads again. -/
namespace Go.Proofs.Ytggcbklififcgab
open Go.ChangeShapes Go.WideShapes Go.ChangeAt Go.RowKit Go.Joins Go.Deep Go.WideElems Go.Maps

theorem array5 {α : Type} {cs : Array α} (h : cs.size = 5) : ∃ c0 c1 c2 c3 c4, cs = #[c0, c1, c2, c3, c4] := by
  obtain ⟨l⟩ := cs
  match l, h with
  | [c0, c1, c2, c3, c4], _ => exact ⟨c0, c1, c2, c3, c4, rfl⟩
section
variable {H : Type} {enc : TypeId × Value → H} {P : Program} {w : World} {base : Nat} {spare : Nat → Bool} {held : Bool}
theorem open_agg5 {r : Reach} {b0 : Nat} {t : TypeId} {f0 f1 f2 f3 f4 : Field} {v : Value} {d : DataW H} {p : List MemPlace} (hs : P.underlying t = some (.struct #[f0, f1, f2, f3, f4])) (hone : oneCellFields P #[f0, f1, f2, f3, f4] = true) (hC : P.cellsOf t = 5)
    (hv : Value.okWide P w r b0 t v) (h : DataW.Trod enc P w base spare held t v d p) :
    ∃ (v0 v1 v2 v3 v4 : Value) (y0 y1 y2 y3 y4 : DataW H × List MemPlace) (n : Nat), v = .agg #[v0, v1, v2, v3, v4] ∧ d = .agg [y0.1, y1.1, y2.1, y3.1, y4.1] ∧ p = y0.2 ++ (y1.2 ++ (y2.2 ++ (y3.2 ++ y4.2))) ∧
      DataW.trod enc P w base spare held n f0.type [v0] = some y0 ∧ DataW.trod enc P w base spare held n f1.type [v1] = some y1 ∧ DataW.trod enc P w base spare held n f2.type [v2] = some y2 ∧ DataW.trod enc P w base spare held n f3.type [v3] = some y3 ∧ DataW.trod enc P w base spare held n f4.type [v4] = some y4 := by
  obtain ⟨cs, rfl, hsz⟩ := okWide_struct hs hv
  obtain ⟨c0, c1, c2, c3, c4, rfl⟩ := array5 (hsz.trans hC)
  obtain ⟨fuel, hf⟩ := h
  obtain ⟨xs, n, _, hx, hl, hlen, hf⟩ := DataW.trod_struct hs hf
  obtain ⟨o0, k0⟩ := hone_of hone 0 f0 rfl
  obtain ⟨o1, k1⟩ := hone_of hone 1 f1 rfl
  obtain ⟨o2, k2⟩ := hone_of hone 2 f2 rfl
  obtain ⟨o3, k3⟩ := hone_of hone 3 f3 rfl
  obtain ⟨o4, k4⟩ := hone_of hone 4 f4 rfl
  match xs, hlen, hx, hf with
  | [y0, y1, y2, y3, y4], _, hx, hf =>
    simp at hx
    exact ⟨c0, c1, c2, c3, c4, y0, y1, y2, y3, y4, n, rfl, hx.1, hx.2, by simpa [Value.cells, o0, k0] using hf 0 f0 rfl, by simpa [Value.cells, o1, k1] using hf 1 f1 rfl, by simpa [Value.cells, o2, k2] using hf 2 f2 rfl, by simpa [Value.cells, o3, k3] using hf 3 f3 rfl, by simpa [Value.cells, o4, k4] using hf 4 f4 rfl⟩
theorem shut_agg5 {t : TypeId} {f0 f1 f2 f3 f4 : Field} {v0 v1 v2 v3 v4 : Value} {n : Nat} {y0 y1 y2 y3 y4 : DataW H × List MemPlace} (hs : P.underlying t = some (.struct #[f0, f1, f2, f3, f4])) (hone : oneCellFields P #[f0, f1, f2, f3, f4] = true) (hC : P.cellsOf t = 5)
    (t0 : DataW.trod enc P w base spare held n f0.type [v0] = some y0) (t1 : DataW.trod enc P w base spare held n f1.type [v1] = some y1) (t2 : DataW.trod enc P w base spare held n f2.type [v2] = some y2) (t3 : DataW.trod enc P w base spare held n f3.type [v3] = some y3) (t4 : DataW.trod enc P w base spare held n f4.type [v4] = some y4) :
    DataW.Trod enc P w base spare held t (.agg #[v0, v1, v2, v3, v4]) (.agg [y0.1, y1.1, y2.1, y3.1, y4.1]) (y0.2 ++ (y1.2 ++ (y2.2 ++ (y3.2 ++ y4.2)))) := by
  obtain ⟨o0, k0⟩ := hone_of hone 0 f0 rfl
  obtain ⟨o1, k1⟩ := hone_of hone 1 f1 rfl
  obtain ⟨o2, k2⟩ := hone_of hone 2 f2 rfl
  obtain ⟨o3, k3⟩ := hone_of hone 3 f3 rfl
  obtain ⟨o4, k4⟩ := hone_of hone 4 f4 rfl
  have ts := trod_struct_mk (enc := enc) (w := w) (base := base) (spare := spare) (held := held) (n := n) (cs := [v0, v1, v2, v3, v4]) (xs := [y0, y1, y2, y3, y4]) hs (by simp [hC]) (by simp [o0, k0, o1, k1, o2, k2, o3, k3, o4, k4, t0, t1, t2, t3, t4])
  exact ⟨n + 1, by simpa [Value.cells] using ts⟩
end
theorem cellsHdr : Try.prog.cellsOf 29 = 5 := by kernel_rfl
set_option maxRecDepth 100000 in
theorem hdr_five {H : Type} {enc : TypeId × Value → H} {W : World} {base : Nat} {v : Value} {d : DataW H} {p : List MemPlace}
    (hv0 : Value.okWide Try.prog W .any base 29 v) (h : DataW.Trod enc Try.prog W 0 (fun _ => true) true 29 v d p) :
    ∃ x0 x1 x2 x3 x4 : Nat, x0 < 4294967296 ∧ x1 < 4294967296 ∧ x2 < 256 ∧ x3 < 65536 ∧ x4 < 65536 ∧ v = hv x0 x1 x2 x3 x4 ∧ p = [] ∧ ∀ (W' : World) (sp : Nat → Bool), DataW.Trod enc Try.prog W' 0 sp true 29 v d [] := by
  obtain ⟨c0, c1, c2, c3, c4, y0, y1, y2, y3, y4, m, rfl, rfl, rfl, g0, g1, g2, g3, g4⟩ := open_agg5 Try.underlying29 (by kernel_rfl) cellsHdr hv0 h
  obtain ⟨x0, e0, rfl, w0⟩ := DataW.trod_int Try.underlying22 g0
  obtain ⟨x1, e1, rfl, w1⟩ := DataW.trod_int Try.underlying22 g1
  obtain ⟨x2, e2, rfl, w2⟩ := DataW.trod_int Try.underlying5 g2
  obtain ⟨x3, e3, rfl, w3⟩ := DataW.trod_int Try.underlying25 g3
  obtain ⟨x4, e4, rfl, w4⟩ := DataW.trod_int Try.underlying25 g4
  simp at e0 e1 e2 e3 e4
  subst e0 e1 e2 e3 e4
  obtain ⟨l0, u0⟩ := bounds_u32 w0
  obtain ⟨l1, u1⟩ := bounds_u32 w1
  obtain ⟨l2, u2⟩ := bounds_u8 w2
  obtain ⟨l3, u3⟩ := bounds_u16 w3
  obtain ⟨l4, u4⟩ := bounds_u16 w4
  obtain ⟨x0, rfl⟩ := Int.eq_ofNat_of_zero_le l0
  obtain ⟨x1, rfl⟩ := Int.eq_ofNat_of_zero_le l1
  obtain ⟨x2, rfl⟩ := Int.eq_ofNat_of_zero_le l2
  obtain ⟨x3, rfl⟩ := Int.eq_ofNat_of_zero_le l3
  obtain ⟨x4, rfl⟩ := Int.eq_ofNat_of_zero_le l4
  refine ⟨x0, x1, x2, x3, x4, by omega, by omega, by omega, by omega, by omega, rfl, rfl, fun W' sp => ?_⟩
  exact shut_agg5 (n := 1) (y0 := (.lit (.int .u32 x0), [])) (y1 := (.lit (.int .u32 x1), [])) (y2 := (.lit (.int .u8 x2), [])) (y3 := (.lit (.int .u16 x3), [])) (y4 := (.lit (.int .u16 x4), [])) Try.underlying29 (by kernel_rfl) cellsHdr
    (by simp [DataW.trod, Try.underlying22, w0]) (by simp [DataW.trod, Try.underlying22, w1]) (by simp [DataW.trod, Try.underlying5, w2]) (by simp [DataW.trod, Try.underlying25, w3]) (by simp [DataW.trod, Try.underlying25, w4])
end Go.Proofs.Ytggcbklififcgab
/- How a prefix and a range that are handed in read (cidr/RCC without its table). -/
namespace Go.Proofs.Ytggcbklififcgab
open Go.ChangeShapes Go.WideShapes Go.ChangeAt Go.RowKit Go.Joins Go.Deep Go.WideElems Go.Maps

theorem cellsPre : Try.prog.cellsOf 24 = 2 := by kernel_rfl
theorem cellsRng : Try.prog.cellsOf 27 = 2 := by kernel_rfl
set_option maxRecDepth 100000 in
theorem pre_open {H : Type} {enc : TypeId × Value → H} {W : World} {base : Nat} {v : Value} {d : DataW H} {p : List MemPlace}
    (hv : Value.okWide Try.prog W .any base 24 v) (h : DataW.Trod enc Try.prog W 0 (fun _ => true) true 24 v d p) :
    ∃ (a : Nat) (n : Int), a < 4294967296 ∧ -9223372036854775808 ≤ n ∧ n ≤ 9223372036854775807 ∧ v = pv a n ∧ p = [] ∧ ∀ (W' : World) (sp : Nat → Bool), DataW.Trod enc Try.prog W' 0 sp true 24 v d [] := by
  obtain ⟨c0, c1, y0, y1, m, rfl, rfl, rfl, hy0, hy1⟩ := open_agg2 Try.underlying24 (by kernel_rfl) cellsPre hv h
  obtain ⟨x, e0, rfl, wx⟩ := DataW.trod_int Try.underlying22 hy0
  obtain ⟨y, e1, rfl, wy⟩ := DataW.trod_int Try.underlying3 hy1
  simp at e0 e1
  subst e0 e1
  obtain ⟨x0, x1⟩ := bounds_u32 wx
  obtain ⟨y0, y1⟩ := bounds_i64 wy
  obtain ⟨x, rfl⟩ := Int.eq_ofNat_of_zero_le x0
  refine ⟨x, y, by omega, by omega, by omega, rfl, rfl, fun W' sp => ?_⟩
  exact shut_agg2 (y0 := (.lit (.int .u32 x), [])) (y1 := (.lit (.int .i64 y), [])) Try.underlying24 (by kernel_rfl) cellsPre ⟨1, by simp [DataW.trod, Try.underlying22, wx]⟩ ⟨1, by simp [DataW.trod, Try.underlying3, wy]⟩
set_option maxRecDepth 100000 in
theorem rng_open {H : Type} {enc : TypeId × Value → H} {W : World} {base : Nat} {v : Value} {d : DataW H} {p : List MemPlace}
    (hv : Value.okWide Try.prog W .any base 27 v) (h : DataW.Trod enc Try.prog W 0 (fun _ => true) true 27 v d p) :
    ∃ (l k : Nat), l < 65536 ∧ k < 65536 ∧ v = .agg #[.int .u16 l, .int .u16 k] ∧ p = [] ∧ ∀ (W' : World) (sp : Nat → Bool), DataW.Trod enc Try.prog W' 0 sp true 27 v d [] := by
  obtain ⟨c0, c1, y0, y1, m, rfl, rfl, rfl, hy0, hy1⟩ := open_agg2 Try.underlying27 (by kernel_rfl) cellsRng hv h
  obtain ⟨x, e0, rfl, wx⟩ := DataW.trod_int Try.underlying25 hy0
  obtain ⟨y, e1, rfl, wy⟩ := DataW.trod_int Try.underlying25 hy1
  simp at e0 e1
  subst e0 e1
  obtain ⟨x0, x1⟩ := bounds_u16 wx
  obtain ⟨y0, y1⟩ := bounds_u16 wy
  obtain ⟨x, rfl⟩ := Int.eq_ofNat_of_zero_le x0
  obtain ⟨y, rfl⟩ := Int.eq_ofNat_of_zero_le y0
  refine ⟨x, y, by omega, by omega, rfl, rfl, fun W' sp => ?_⟩
  exact shut_agg2 (y0 := (.lit (.int .u16 x), [])) (y1 := (.lit (.int .u16 y), [])) Try.underlying27 (by kernel_rfl) cellsRng ⟨1, by simp [DataW.trod, Try.underlying25, wx]⟩ ⟨1, by simp [DataW.trod, Try.underlying25, wy]⟩
end Go.Proofs.Ytggcbklififcgab
