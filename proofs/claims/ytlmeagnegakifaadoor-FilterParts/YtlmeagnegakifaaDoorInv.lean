/- A region that draws its order, by what holds whichever operations are done. No program in sight. -/
import Derived.Deep.RegionHeld3
namespace Go
/-- How many are not done. -/
def undone : List Bool → Nat
  | [] => 0
  | b :: r => (if b then 0 else 1) + undone r
theorem undone_set : ∀ (l : List Bool) (i : Nat), l[i]? = some false → undone (l.set i true) + 1 = undone l
  | [], i, h => by simp at h
  | b :: r, 0, h => by simp at h; subst h; simp [undone]; omega
  | b :: r, i + 1, h => by
    have := undone_set r i (by simpa using h)
    simp only [List.set_cons_succ, undone]; omega
theorem undone_new : ∀ n, undone (List.replicate n false) = n
  | 0 => rfl
  | n + 1 => by rw [List.replicate_succ, undone, undone_new n]; simp; omega
section
variable {P : Program} {ops : Array Oper} {Q : Exit → Act → World → Prop} {md : Region.Mode}
theorem ready_undone {d : Array Bool} {i : Nat} (h : i ∈ Region.ready md ops d) : d.toList[i]? = some false ∧ i < ops.size := by
  unfold Region.ready at h
  rw [List.mem_filter, List.mem_range, Bool.and_eq_true] at h
  obtain ⟨h1, h2, -⟩ := h
  refine ⟨?_, h1⟩
  rw [Array.getD_eq_getD_getElem?] at h2
  rw [Array.getElem?_toList]
  cases q : d[i]? with
  | none => rw [q] at h2; simp at h2
  | some b => rw [q] at h2; simp at h2; rw [h2]
theorem wpAnyH_inv (J : Array Bool → Act → World → Prop)
    (hstep : ∀ d a w i o, J d a w → i ∈ Region.ready md ops d → ops[i]? = some o → ∀ K' : Act → World → Prop, Shut (∀ a' w', J (d.setIfInBounds i true) a' w' → K' a' w') →
      if Region.wanted o (yielded ops a.tmps) = true then Oper.wp P o a w K' Q else K' (a.put o.dst undef) w)
    (hend : ∀ d a w, J d a w → Region.ready md ops d = [] → Q .normal a w) :
    ∀ fuel d a w, J d a w → undone d.toList ≤ fuel → wpAnyH P md ops Q (fun _ => True) fuel d a w := by
  intro fuel
  induction fuel with
  | zero =>
    intro d a w hJ hu
    have e : Region.ready md ops d = [] := by
      rcases q : Region.ready md ops d with _ | ⟨i, r⟩
      · rfl
      · have := (ready_undone (md := md) (ops := ops) (d := d) (i := i) (by rw [q]; simp)).1
        have := undone_set d.toList i this
        omega
    exact wpAnyH_done (by rw [e]) (hend d a w hJ e) 0
  | succ f ih =>
    intro d a w hJ hu
    rcases q : Region.ready md ops d with _ | ⟨i, r⟩
    · exact wpAnyH_done (by rw [q]) (hend d a w hJ q) (f + 1)
    · refine wpAnyH_ready rfl (by rw [q]; simp) (fun j hj => ?_)
      obtain ⟨h1, h2⟩ := ready_undone hj
      refine wpOp_step (Array.getElem?_eq_getElem h2) (fun K' hK => ?_)
      refine hstep d a w j _ hJ hj (Array.getElem?_eq_getElem h2) K' (fun a' w' hJ' => hK a' w' ⟨trivial, ih _ _ _ hJ' ?_⟩)
      have := undone_set d.toList j h1
      rw [Array.toList_setIfInBounds]; omega
/-- Each operation waits only for earlier ones. -/
def backB (md : Region.Mode) (ops : Array Oper) : Bool := ops.toList.zipIdx.all fun p => p.1.after.all fun e => !Region.binds md e || decide (e.on < p.2)
/-- Where none is ready, all are done. -/
theorem ready_nil {d : Array Bool} (hr : Region.ready md ops d = []) (hb : backB md ops = true) (hs : ops.size ≤ d.size) : ∀ i, i < ops.size → d.getD i true = true := by
  intro i
  induction i using Nat.strongRecOn with
  | ind i ih =>
    intro hi
    cases q : d.getD i true with
    | true => rfl
    | false =>
      exfalso
      have hn : i ∉ Region.ready md ops d := by rw [hr]; simp
      apply hn
      unfold Region.ready
      rw [List.mem_filter, List.mem_range]
      refine ⟨hi, ?_⟩
      have ho : ops[i]? = some ops[i] := Array.getElem?_eq_getElem hi
      have hall : (ops[i].after.all fun e => !Region.binds md e || decide (e.on < i)) = true := by
        unfold backB at hb
        rw [List.all_eq_true] at hb
        exact hb (ops[i], i) (by rw [List.mem_zipIdx_iff_getElem?]; simp)
      rw [Array.all_eq_true] at hall
      simp only [q, ho, Option.map_some, Option.getD_some, Bool.not_false, Bool.true_and]
      rw [Array.all_eq_true]
      intro k hk
      have hlt := hall k hk
      cases hbd : Region.binds md ops[i].after[k] with
      | false => rfl
      | true =>
      rw [hbd, Bool.not_true, Bool.false_or, decide_eq_true_eq] at hlt
      rw [Bool.not_true, Bool.false_or]
      have hd := ih _ hlt (Nat.lt_trans hlt hi)
      have hj := Nat.lt_trans hlt hi
      have e1 : ∀ v, d.getD (ops[i].after[k]).on v = d[(ops[i].after[k]).on]'(Nat.lt_of_lt_of_le hj hs) := fun v => by
        rw [Array.getD_eq_getD_getElem?, Array.getElem?_eq_getElem (Nat.lt_of_lt_of_le hj hs)]; rfl
      rw [e1] at hd ⊢
      exact hd
/-- A region that draws, by an invariant. -/
theorem wp_region_inv {id : Nat} {a : Act} {w : World} (J : Array Bool → Act → World → Prop) (hm : P.follows .mixedOrders = true)
    (hstep : ∀ d a w i o, J d a w → i ∈ Region.ready .any ops d → ops[i]? = some o → ∀ K' : Act → World → Prop, Shut (∀ a' w', J (d.setIfInBounds i true) a' w' → K' a' w') →
      if Region.wanted o (yielded ops a.tmps) = true then Oper.wp P o a w K' Q else K' (a.put o.dst undef) w)
    (hend : ∀ d a w, J d a w → Region.ready .any ops d = [] → Q .normal a w) (hJ : J (Array.replicate ops.size false) a w.drew) : (Code.region id ops true).wp P Q a w := by
  refine wp_region_held (S := fun _ => True) hm ?_
  exact wpAnyH_inv J hstep hend ops.size _ _ _ hJ (by rw [Array.toList_replicate, undone_new]; exact Nat.le_refl _)
end
end Go
