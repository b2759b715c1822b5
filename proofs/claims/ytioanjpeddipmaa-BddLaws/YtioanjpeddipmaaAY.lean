/- Calls on an arena with room enough. -/
import Derived.Test.YtioanjpeddipmaaLM
import Derived.Test.YtioanjpeddipmaaLL
namespace Go.Proofs.Ytioanjpeddipmaa
open Go.RowKit
set_option linter.unusedVariables false

/-- What a call with room enough answers and leaves. -/
def Big (Z : Nat → Prop) (p : Nat) (W : World) (B : Nat → Bool) (ns : List Nd) (c : Nat) (φ : Env → Bool) (e : Ending) (w' : World) : Prop :=
  ∃ q ns', e = .returned (.tuple #[.int .i64 (q : Nat), .int .i64 0]) ∧ Sta Z p w' 262144 ns' ∧ Hold Z W w' ∧ On B ns ns' c ∧ St ns' q φ
theorem big_got {Z : Nat → Prop} {p : Nat} {W : World} {B : Nat → Bool} {ns : List Nd} {c : Nat} {φ : Env → Bool} {R : Option Nat × List Nd} (hR : ∃ q ns', R = (some q, ns') ∧ On B ns ns' c ∧ St ns' q φ) {e : Ending} {w' : World} (h : Got2 Z p 262144 R W e w') : Big Z p W B ns c φ e w' := by
  obtain ⟨q, ns', rfl, o, s⟩ := hR
  obtain ⟨rfl, hS, hH⟩ := h
  exact ⟨q, ns', rfl, hS, hH, o, s⟩
section
variable {Z : Nat → Prop} {p : Nat} {W : World} {ns : List Nd} {B : Nat → Bool} {c : Nat}
theorem bJoin (h : Sta Z p W 262144 ns) (hB : Bits B ns) (kind : Nat) (hk : kind ≤ 3) {f g : Nat} {φ ψ : Env → Bool} (hf : St ns f φ) (hg : St ns g ψ) (hc : pw B ≤ c) (hm : ns.length + c < 262144) :
    Calls Try.prog 16 #[.pointer (some ⟨p, 0, none⟩), .int .i64 (kind : Nat), .int .i64 (f : Nat), .int .i64 (g : Nat)] W (Big Z p W B ns c (fun e => opB kind (φ e) (ψ e))) :=
  (sJoin h kind f g hk hf.1 hg.1).mono fun _ _ => big_got (jF_big h.wf hf hg hB hc hm)
theorem bNot (h : Sta Z p W 262144 ns) (hB : Bits B ns) {f : Nat} {φ : Env → Bool} (hf : St ns f φ) (hc : pw B ≤ c) (hm : ns.length + c < 262144) :
    Calls Try.prog 25 #[.pointer (some ⟨p, 0, none⟩), .int .i64 (f : Nat)] W (Big Z p W B ns c (fun e => !φ e)) :=
  (sNot h f hf.1).mono fun _ _ q => big_got (by
    obtain ⟨q, ns', e, o, s⟩ := jF_big (kind := 3) h.wf (St.top h.wf) hf hB hc hm
    exact ⟨q, ns', e, o, s.1, fun e => by rw [s.2]; simp [opB]⟩) q
theorem bIte (h : Sta Z p W 262144 ns) (hB : Bits B ns) {f g i : Nat} {φ ψ χ : Env → Bool} (hf : St ns f φ) (hg : St ns g ψ) (hi : St ns i χ) (hc : 3 * pw B ≤ c) (hm : ns.length + c < 262144) :
    Calls Try.prog 23 #[.pointer (some ⟨p, 0, none⟩), .int .i64 (f : Nat), .int .i64 (g : Nat), .int .i64 (i : Nat)] W (Big Z p W B ns c (fun e => iteB (φ e) (ψ e) (χ e))) :=
  (sIte h f g i hf.1 hg.1 hi.1).mono fun _ _ => big_got (iF_big h.wf hf hg hi hB hc hm)
theorem bRes (h : Sta Z p W 262144 ns) (hB : Bits B ns) {f i : Nat} (on : Bool) (hi : i < 104) {φ : Env → Bool} (hf : St ns f φ) (hc : pw B ≤ c) (hm : ns.length + c < 262144) :
    Calls Try.prog 21 #[.pointer (some ⟨p, 0, none⟩), .int .i64 (f : Nat), .int .i64 (i : Nat), .bool on] W (Big Z p W B ns c (fun e => φ (hld e i on))) :=
  (sRes h f i on hi hf.1).mono fun _ _ => big_got (rF_big hi h.wf hf hB hc hm)
theorem bVar (h : Sta Z p W 262144 ns) (hB : Bits B ns) {i : Nat} (hi : i < 104) (hBi : B i = true) (hc : 1 ≤ c) (hm : ns.length + c < 262144) :
    Calls Try.prog 20 #[.pointer (some ⟨p, 0, none⟩), .int .i64 (i : Nat)] W (Big Z p W B ns c (fun e => e i)) :=
  (sVar h i hi).mono fun _ _ q => big_got (by
    obtain ⟨q, ns', e, o, s⟩ := cF_big (l := [(i, true)]) h.wf (rise_one hi true).1 (rise_one hi true).2 hB (fun p hp => by rw [List.mem_singleton.1 hp]; exact hBi) (k := c) (by simpa using hc) hm
    exact ⟨q, ns', e, o, s.1, fun e => by rw [s.2]; simp [allB]⟩) q
end
theorem On.st {B : Nat → Bool} {ns ns' : List Nd} {k q : Nat} {φ : Env → Bool} (h : On B ns ns' k) (hw : WF ns) (s : St ns q φ) : St ns' q φ := s.ext h.ext hw h.wf
/-- What Make leaves of few expressions in a new arena. -/
structure Few (L : List Ex) (o : List Nat) (B : Nat → Bool) (ns : List Nd) : Prop where
  len : o.length = L.length
  st : Stand ns o (semL [] L)
  bits : Bits B ns
  pw : pw B ≤ 1024
  most : ns.length ≤ 184322
def MkB (Z : Nat → Prop) (p : Nat) (W : World) (L : List Ex) (e : Ending) (w' : World) : Prop :=
  ∃ v o B ns, e = .returned (.tuple #[v, .int .i64 0]) ∧ Sta (Zv Z v) p w' 262144 ns ∧ Hold Z W w' ∧ w'.ownsRow W.heap.size 3 1 v o.length (o.map iv) ∧ Few L o B ns
theorem make_big {Z : Nat → Prop} {p : Nat} {W : World} (h : Sta Z p W 262144 [bot, top]) {L : List Ex} {la : Option Addr} {lc : Nat} (hL : Rw W la (L.flatMap Ex.cells)) (hZ : ∀ b off, la = some ⟨b, off, none⟩ → 0 < L.length → Z b) (lt : Lt L) :
    Calls Try.prog 12 #[.pointer (some ⟨p, 0, none⟩), .slice la L.length lc] W (MkB Z p W L) := by
  refine (make_any Z p 262144 [bot, top] L la lc W h hL hZ lt.ok lt.len).mono ?_
  rintro e w' ⟨v, rfl, hS, hH, hR⟩
  obtain ⟨B, hp, hB⟩ := lt.few
  obtain ⟨-, -, -, m4, -, -, m7⟩ := mk_any 262144 L [bot, top] [] [] wf_new (Stand.nil _) lt.ok
  obtain ⟨b1, b2, b3⟩ := m7 B 1024 (bits_new B) hB hp
  have hl : ([bot, top] : List Nd).length = 2 := rfl
  have h60 := lt.len
  have hok := b3 (by omega)
  obtain ⟨st, -⟩ := m4 hok
  refine ⟨v, _, B, _, by rw [hok]; rfl, hS, hH, hR, ⟨?_, st, b1, hp, by omega⟩⟩
  have := st.len
  rw [semL_len] at this
  simpa using this
/-- The last of what was made, and others. -/
theorem Few.at_ {L : List Ex} {o : List Nat} {B : Nat → Bool} {ns : List Nd} (h : Few L o B ns) {i : Nat} (hi : i < L.length) : St ns (o.getD i 0) ((semL [] L).getD i (fun _ => false)) :=
  h.st.at' i (by rw [semL_len]; simpa using hi)
theorem Zv_lt {Z : Nat → Prop} {v : Value} {n : Nat} (h : ∀ k, k < n → Z k) : ∀ k, k < n → Zv Z v k := fun k hk => Or.inl (h k hk)
/-- What a law over expressions that are handed in begins with. -/
theorem rw_z {w : World} {la : Option Addr} {L : List Ex} (h : Rw w la (L.flatMap Ex.cells)) : ∀ b off, la = some ⟨b, off, none⟩ → 0 < L.length → b < w.heap.size := fun b off e hl => by
  match L, hl with
  | x :: r, _ =>
    obtain ⟨b', off', e', hc⟩ := h 0 (.int .i64 x.k) (by simp [List.flatMap_cons, Ex.cells])
    rw [e] at e'
    cases e'
    exact cell_lt (o := off + 0) (by rw [hc]; rfl)
end Go.Proofs.Ytioanjpeddipmaa
