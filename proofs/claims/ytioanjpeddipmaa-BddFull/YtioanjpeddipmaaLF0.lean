/- Two arenas beside each other; Make of one more expression in either. -/
import Derived.Test.YtioanjpeddipmaaAY
import Derived.Test.YtioanjpeddipmaaBK
namespace Go.Proofs.Ytioanjpeddipmaa
open Go.RowKit
set_option linter.unusedVariables false

/-- Two arenas, beside the blocks Z and beside each other. -/
def Duo (Z : Nat → Prop) (p p' : Nat) (W : World) (most most' : Nat) (ns ns' : List Nd) : Prop := ∃ a b : AL, a.p = p ∧ b.p = p' ∧ Ar W a most ns ∧ Ar W b most' ns' ∧ WF ns ∧ WF ns' ∧ (∀ k, a.has k → ¬ Z k) ∧ (∀ k, b.has k → ¬ Z k) ∧ (∀ k, a.has k → ¬ b.has k) ∧ ∀ k, Z k → k < W.heap.size
theorem Duo.swap {Z : Nat → Prop} {p p' : Nat} {W : World} {most most' : Nat} {ns ns' : List Nd} (h : Duo Z p p' W most most' ns ns') : Duo Z p' p W most' most ns' ns := by
  obtain ⟨a, b, h1, h2, h3, h4, h5, h6, h7, h8, h9, h10⟩ := h
  exact ⟨b, a, h2, h1, h4, h3, h6, h5, h8, h7, fun k hk q => h9 k q hk, h10⟩
/-- One of them, and what a call on it leaves. -/
theorem Duo.one {Z : Nat → Prop} {p p' : Nat} {W : World} {most most' : Nat} {ns ns' : List Nd} (h : Duo Z p p' W most most' ns ns') :
    ∃ Z1 : Nat → Prop, Sta Z1 p W most ns ∧ (∀ k, Z k → Z1 k) ∧ ∀ (Z2 : Nat → Prop) (w' : World) (ns2 : List Nd), (∀ k, Z1 k → Z2 k) → Sta Z2 p w' most ns2 → Hold Z1 W w' → Duo Z p p' w' most most' ns2 ns' := by
  obtain ⟨a, b, h1, h2, h3, h4, h5, h6, h7, h8, h9, h10⟩ := h
  refine ⟨fun k => Z k ∨ b.has k, ⟨a, h1, h3, h5, fun k hk q => q.elim (h7 k hk) (h9 k hk), fun k hk => hk.elim (h10 k) (fun q => ?_)⟩, fun k hk => Or.inl hk, fun Z2 w' ns2 hz hS hH => ?_⟩
  · have q1 := h4.pl
    have q2 := h4.ql
    have q3 := h4.ml
    rcases q with e | e | e <;> omega
  · obtain ⟨a', s1, s2, s3, s4, s5⟩ := hS
    exact ⟨a', b, s1, h2, s2, h4.keep hH (fun i hi q => q (Or.inr hi)), s3, h6, fun k hk q => s4 k hk (hz k (Or.inl q)), h8, fun k hk q => s4 k hk (hz k (Or.inr q)), fun k hk => by have := h10 k hk; have := hH.size; omega⟩
theorem Duo.on {Z : Nat → Prop} {p p' : Nat} {W w' : World} {most most' : Nat} {ns ns' : List Nd} (h : Duo Z p p' W most most' ns ns') (hb : Below W.heap.size W w') : Duo Z p p' w' most most' ns ns' := by
  obtain ⟨a, b, h1, h2, h3, h4, h5, h6, h7, h8, h9, h10⟩ := h
  exact ⟨a, b, h1, h2, h3.on hb, h4.on hb, h5, h6, h7, h8, h9, fun k hk => by have := h10 k hk; have := hb.size; omega⟩
/-- A second one, made behind the first. -/
theorem Duo.made {Z : Nat → Prop} {p p' : Nat} {W w' : World} {most most' : Nat} {ns ns' : List Nd} (h : Sta Z p W most ns) (hb : Below W.heap.size W w') (h' : Sta (fun k => k < W.heap.size) p' w' most' ns') : Duo Z p p' w' most most' ns ns' := by
  obtain ⟨a, h1, h2, h3, h4, h5⟩ := h
  obtain ⟨b, k1, k2, k3, k4, k5⟩ := h'
  refine ⟨a, b, h1, k1, h2.on hb, k2, h3, k3, h4, fun k hk q => k4 k hk (h5 k q), fun k hk q => k4 k q ?_, fun k hk => by have := h5 k hk; have := hb.size; omega⟩
  have a1 := h2.pl
  have a2 := h2.ql
  have a3 := h2.ml
  rcases hk with e | e | e <;> (rw [e]; assumption)
theorem Duo.wf {Z : Nat → Prop} {p p' : Nat} {W : World} {most most' : Nat} {ns ns' : List Nd} (h : Duo Z p p' W most most' ns ns') : WF ns ∧ WF ns' := by
  obtain ⟨a, b, -, -, -, -, h5, h6, -⟩ := h
  exact ⟨h5, h6⟩
theorem duo_len {Z : Nat → Prop} {p p' : Nat} {W : World} {most most' : Nat} {ns ns' : List Nd} (h : Duo Z p p' W most most' ns ns') : Calls Try.prog 15 #[.pointer (some ⟨p, 0, none⟩)] W fun e w' => e = .returned (.int .i64 (ns.length : Nat)) ∧ W = w' := by
  obtain ⟨Z1, hS, -⟩ := h.one
  exact sLen hS
/-- A row of so many numbers is told by its length. -/
theorem row_len {w : World} {base : Nat} {t : TypeId} {v : Value} {o : List Nat} (h : w.ownsRow base t 1 v o.length (o.map iv)) : ∃ ad cap, v = .slice ad o.length cap := by
  rcases h.2 with ⟨e, q⟩ | ⟨g, cap, cur, e, -⟩
  · have : o.length = 0 := q
    exact ⟨none, 0, by rw [e, this]⟩
  · exact ⟨_, _, e⟩
/-- What Make leaves in one of two arenas. -/
def MkD (Z : Nat → Prop) (p p' most most' : Nat) (ns' : List Nd) (W : World) (m : Nat) (ok : Bool) (ns2 : List Nd) (e : Ending) (w' : World) : Prop :=
  ∃ (ad : Option Addr) (cap : Nat), e = .returned (.tuple #[.slice ad m cap, .int .i64 (if ok then 0 else 20)]) ∧ Duo Z p p' w' most most' ns2 ns' ∧ Hold Z W w'
theorem make_duo {Z : Nat → Prop} {p p' most most' : Nat} {ns ns' : List Nd} {W : World} (h : Duo Z p p' W most most' ns ns') {L : List Ex} {la : Option Addr} {lc : Nat} (hL : Rw W la (L.flatMap Ex.cells)) (hZ : ∀ b off, la = some ⟨b, off, none⟩ → 0 < L.length → Z b) (hok : OkL 0 L) (h60 : L.length ≤ 60) {o : List Nat} {ok : Bool} {ns2 : List Nd} (hM : mkF most ns [] L = (o, ok, ns2)) :
    Calls Try.prog 12 #[.pointer (some ⟨p, 0, none⟩), .slice la L.length lc] W (MkD Z p p' most most' ns' W o.length ok ns2) := by
  obtain ⟨Z1, hS, hz, hD⟩ := h.one
  refine (make_any Z1 p most ns L la lc W hS hL (fun b off e hl => hz b (hZ b off e hl)) hok h60).mono ?_
  rintro e w' ⟨v, rfl, h1, h2, h3⟩
  rw [hM] at h1 h3 ⊢
  obtain ⟨ad, cap, rfl⟩ := row_len h3
  exact ⟨ad, cap, rfl, hD _ _ _ (fun k hk => Or.inl hk) h1 h2, h2.less hz⟩
end Go.Proofs.Ytioanjpeddipmaa
