/- From a walk that turns nothing old ('Below') to what a row asks behind the call: the results read, the arguments and the named variables read as they did. No program in sight. -/
import Derived.Below
import Derived.ChangeSame
namespace Go.Proofs.Ytgcbngephokegaa
open Go.RowKit Go.WideShapes Go.ChangeShapes
theorem post_below {H : Type} {enc : TypeId × Value → H} {P : Program} {f : Func} {s : ChangeSpec} {b1 b2 b3 b4 : Bool} {W W' : World} {args : Array Value} {v : Value} {ds gs : List (DataW H)} {met pa pv : List MemPlace}
    (hW : DataW.Whole enc P f.params.toList s.vars b1 W args.toList ds gs met) (hm : met = pa ++ pv) (hb : Below W.heap.size W W')
    (rR : ∀ (b : Nat) (sp : Nat → Bool) (hd : Bool), DataW.TrodAll enc P W' b sp hd f.resultTypes.toList (v.resultList f.resultTypes.size) (s.fn H (ds ++ gs)).results [])
    (rA : ∀ sp : Nat → Bool, (∀ p ∈ met, sp p.block = true) → DataW.TrodAll enc P W' 0 sp true f.params.toList args.toList (s.fn H (ds ++ gs)).args pa)
    (rV : ∀ sp : Nat → Bool, (∀ p ∈ met, sp p.block = true) → DataW.TrodVars enc P W' sp s.vars (s.fn H (ds ++ gs)).vars pv)
    (ok : ∀ (j : Nat) (t : TypeId) (r : Value), f.resultTypes[j]? = some t → (v.resultList f.resultTypes.size)[j]? = some r → Value.okWide P W' .any 0 t r) :
    s.post enc P f b1 b2 b3 b4 W args v W' := by
  subst hm
  have low : ∀ p ∈ pa ++ pv, p.block < W.heap.size := hW.lt
  have lowB : ∀ p ∈ pa ++ pv, (fun b => decide (b < W.heap.size)) p.block = true := fun p hp => decide_eq_true (low p hp)
  have again : ∀ p ∈ pa ++ pv, (fun _ : Nat => true) p.block = true := fun _ _ => rfl
  have hN := hW
  obtain ⟨_, _, _, _, _, hz, hn⟩ := hN
  refine ⟨ds, gs, pa ++ pv, [], pa, pv, hW, rR _ _ _, rA _ lowB, rV _ lowB, World.keptBut_mono (fun p hp => ⟨hp, Or.inr (List.mem_append.1 hp)⟩) (hb.frame (· ∈ pa ++ pv)), fun _ => ⟨ok, _, _, ([] ++ pa) ++ pv, ⟨[] ++ pa, pv, trodAll_append (rA _ again) (rR _ _ _), rV _ again, rfl, fun b off hp => ?_, fun ha => ?_⟩, fun p hp _ => by simpa using hp⟩⟩
  · have hp' : MemPlace.cell b off ∈ pa ++ pv := by simpa using hp
    exact (hb.frozen (p := ⟨b, off, none⟩) (low _ hp')).trans (hz b off hp')
  · simpa using hn ha
end Go.Proofs.Ytgcbngephokegaa
