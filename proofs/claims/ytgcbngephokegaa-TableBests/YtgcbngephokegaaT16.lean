/- Rules and Meeting of a table. -/
import Derived.Test.YtgcbngephokegaaT15
namespace Go.Proofs.Ytgcbngephokegaa
open Go.RowKit Go.Maps Go.MapKept Go.ChangeMaps Go.WideElems Go.Joins
set_option linter.unusedVariables false
set_option linter.unusedSimpArgs false

/-- Rules as they are asked. -/
def Strict (L : List Ru) : Prop := L.Pairwise fun x y => compR x y < 0
theorem strict_uniq : ∀ {r s : List Ru}, Strict r → Strict s → (∀ x, x ∈ r ↔ x ∈ s) → r = s
  | [], [], _, _, _ => rfl
  | [], y :: s, _, _, h => by have := (h y).2 List.mem_cons_self; cases this
  | x :: r, [], _, _, h => by have := (h x).1 List.mem_cons_self; cases this
  | x :: r, y :: s, hr, hs, h => by
    obtain ⟨r1, r2⟩ := List.pairwise_cons.1 hr
    obtain ⟨s1, s2⟩ := List.pairwise_cons.1 hs
    have irr : ∀ z, ¬ compR z z < 0 := fun z => by rw [compR_self]; omega
    have e : x = y := by
      rcases List.mem_cons.1 ((h x).1 List.mem_cons_self) with e | e
      · exact e
      · rcases List.mem_cons.1 ((h y).2 List.mem_cons_self) with k | k
        · exact k.symm
        · exact absurd (compR_trans _ _ _ (s1 _ e) (r1 _ k)) (irr _)
    subst e
    congr 1
    refine strict_uniq r2 s2 (fun z => ?_)
    constructor
    · intro hz
      rcases List.mem_cons.1 ((h z).1 (List.mem_cons_of_mem _ hz)) with e | e
      · subst e; exact absurd (r1 _ hz) (irr _)
      · exact e
    · intro hz
      rcases List.mem_cons.1 ((h z).2 (List.mem_cons_of_mem _ hz)) with e | e
      · subst e; exact absurd (s1 _ hz) (irr _)
      · exact e
theorem asc_strict {L : List Ru} (h : Asc L) (hn : (L.map Ru.id).Nodup) : Strict L := by
  have h2 : L.Pairwise fun x y => x.id ≠ y.id := List.pairwise_map.1 hn
  refine (List.Pairwise.and h h2).imp (fun {x y} q => ?_)
  have h3 := compR_neg x y
  have h4 : compR x y ≠ 0 := fun e => q.2 ((compR_zero x y).1 e).2.2
  have := q.1
  omega
theorem Strict.nodup {L : List Ru} (h : Strict L) : L.Nodup := h.imp (fun {x y} q e => by rw [e, compR_self] at q; omega)
theorem asc_eq {L M : List Ru} (h : Asc L) (hp : ∀ r, r ∈ L ↔ r ∈ M) (hl : L.Nodup) (hM : Strict M) (hn : (M.map Ru.id).Nodup) : L = M := by
  have hpm : L.Perm M := (List.perm_ext_iff_of_nodup hl hM.nodup).2 hp
  exact strict_uniq (asc_strict h ((hpm.map Ru.id).nodup_iff.2 hn)) hM hp
theorem tab_ids {Z : Nat → Prop} {p : Nat} {w : World} {R : List Ru} (h : Tab Z p w R) : (R.map Ru.id).Nodup := by obtain ⟨m, E, -, -, hp, -⟩ := h; exact hp.n
theorem Tab.perm {Z : Nat → Prop} {p : Nat} {w : World} {R R' : List Ru} (h : Tab Z p w R) (he : ∀ r, r ∈ R' ↔ r ∈ R) (hn : (R'.map Ru.id).Nodup) : Tab Z p w R' := by
  obtain ⟨m, E, t, hm, hp, hl, hz⟩ := h
  have hp' : TabP R' E := ⟨fun y => by rw [hp.m]; exact ⟨fun ⟨r, h1, h2⟩ => ⟨r, (he r).2 h1, h2⟩, fun ⟨r, h1, h2⟩ => ⟨r, (he r).1 h1, h2⟩⟩, hn, fun r hr => hp.r r ((he r).1 hr)⟩
  refine ⟨m, E, t, ?_, hp', hp'.len t.nodup, hz⟩
  cases m with
  | none =>
    have h0 : R = [] := hm
    show R' = []
    cases R' with
    | nil => rfl
    | cons x xs => have := (he x).1 List.mem_cons_self; rw [h0] at this; cases this
  | some b => exact MapV.perm hm (fun p => by rw [mem_ruL, mem_ruL, he])
set_option maxRecDepth 100000 in
theorem sortedf_any (W : World) (m : Option Nat) (R M : List Ru) (h : RMap W m R) (hR : R.length ≤ 100000) (he : ∀ r, r ∈ R ↔ r ∈ M) (hRn : (R.map Ru.id).Nodup) (hM : Strict M) (hn : (M.map Ru.id).Nodup) :
    Calls Try.prog 57 #[valsF W, .func (.func 40) #[] #[]] (W.alloc (.cells #[.map m] 106)) fun e w' => ∃ v, e = .returned v ∧ Rules w' (W.heap.size + 1) v M ∧ Below (W.heap.size + 1) (W.alloc (.cells #[.map m] 106)) w' := by
  have cC := Lib.hid (collectR 73 #[.pointer (some ⟨W.heap.size, 0, none⟩)] (enters_of Try.func73 (by kernel_rfl) rfl) (AllOnce R) R.length (by omega) (W.alloc (.cells #[.map m] 106)) (values_gives 2 (by omega) m R hRn W h))
  have hs0 : (W.alloc (.cells #[.map m] 106)).heap.size = W.heap.size + 1 := by simp
  obtain ⟨W0, hW0⟩ : ∃ x, W.alloc (.cells #[.map m] 106) = x := ⟨_, rfl⟩
  rw [hW0] at cC hs0 ⊢
  rw [← hs0]
  clear hW0 hs0 h
  go_enter Try.func57, Try.ntmps57
  go_wp2_with fail
  refine cC.out.mono ?_
  rintro e w2 ⟨v, ss, rfl, hS, hv, hb⟩
  have hlen : ss.length ≤ 1000000 := by
    have := nodup_le ss R hS.1 (fun x hx => (hS.2 x).1 hx)
    omega
  have B2 := Lib.hid hb
  have CS := Lib.hid (sort_rows w2 W0.heap.size v ss hv hlen)
  have HS := Lib.hid hS
  have HV := Lib.hid hv
  obtain ⟨ad, cap, ev⟩ := Row.slice hv
  subst ev
  clear hb hS hv cC hlen
  go_wp2_with fail
  refine CS.out.mono ?_
  rintro e w3 ⟨rfl, L', hp, ha, hr, hk⟩
  have hL : L' = M := asc_eq ha (fun r => by rw [hp.mem_iff, HS.out.2, he]) (hp.nodup_iff.2 HS.out.1) hM hn
  rw [hL] at hr
  have HR := Lib.hid hr
  have HB := Lib.hid (show Below W0.heap.size W0 w3 from B2.out.trans (hk.below B2.out.size (fun k hk2 e => by
    have := (row_own HV.out k e).1; omega)))
  clear hp ha hr hk hL CS
  go_wp2
  go_ret
  exact ⟨_, rfl, HR.out, HB.out⟩
set_option maxRecDepth 100000 in
theorem rules_any {Z : Nat → Prop} {p : Nat} {W : World} {M : List Ru} (h : Tab Z p W M) (hM : Strict M) (hl : M.length ≤ 100000) :
    Calls Try.prog 33 #[.pointer (some ⟨p, 0, none⟩)] W fun e w' => ∃ v, e = .returned v ∧ Rules w' W.heap.size v M ∧ Below W.heap.size W w' := by
  obtain ⟨m, hp, hm, hn, -⟩ := tab_look h
  have cV := Lib.hid (values_any m W)
  have cS := Lib.hid (sortedf_any W m M M hm hl (fun r => Iff.rfl) hn hM hn)
  have B1 := Lib.hid (bel_al (Below.refl W.heap.size W) (.cells #[.map m] 106))
  clear hm hn h
  go_enter Try.func33, Try.ntmps33
  go_wp2_with fail
  refine cV.out.mono ?_
  rintro e w2 ⟨rfl, rfl⟩
  go_wp2_with fail
  refine cS.out.mono ?_
  rintro e w3 ⟨v, rfl, hr, hb⟩
  have HR := Lib.hid (show Rules w3 W.heap.size v M from Row.base hr (by omega))
  have HB := Lib.hid (show Below W.heap.size W w3 from B1.out.trans (hb.mono (by omega)))
  clear hr hb cS cV hp
  go_wp2
  go_ret
  exact ⟨v, rfl, HR.out, HB.out⟩
theorem rules_nil (W : World) : Calls Try.prog 33 #[.pointer none] W fun e w' => e = .returned (.slice none 0 0) ∧ W = w' := by
  go_enter Try.func33, Try.ntmps33
  go_wp2
  go_ret
  exact ⟨rfl, rfl⟩
/-- The rules that meet a prefix. -/
def meetR (M : List Ru) (A : Nat) (n : Int) : List Ru := if rightB A n then M.filter (fun r => metQ (pth A n.toNat) (re r).1) else []
end Go.Proofs.Ytgcbngephokegaa
