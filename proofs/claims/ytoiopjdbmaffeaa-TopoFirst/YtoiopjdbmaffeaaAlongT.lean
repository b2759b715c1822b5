/- A region that draws its order, walked along a TREE of orders: what only reads is taken as soon as it is ready; where several that turn the world are ready, each of them is gone on with. The tree is held against the region's edges by one closed check. No program in sight. -/
import Derived.Test.YtoiopjdbmaffeaaAlong2
namespace Go
/-- A tree of orders, by the operations' numbers. -/
inductive ASk where
  | done
  | pure (i : Nat) (t : ASk)
  | b1 (i : Nat) (t : ASk)
  | b2 (i : Nat) (t : ASk) (j : Nat) (u : ASk)
  | b3 (i : Nat) (t : ASk) (j : Nat) (u : ASk) (k : Nat) (v : ASk)
def ASk.depth : ASk → Nat
  | .done => 0
  | .pure _ t => t.depth + 1
  | .b1 _ t => t.depth + 1
  | .b2 _ t _ u => max t.depth u.depth + 1
  | .b3 _ t _ u _ v => max t.depth (max u.depth v.depth) + 1
/-- The tree is as the region's edges want it, where those in 'd' are done; n: how many operations there are. -/
def ASk.pre (md : Region.Mode) (ops : Array Oper) (n : Nat) : ASk → Array Bool → Bool
  | .done, d => (Region.ready md ops d).isEmpty
  | .pure i t, d => decide (i < n) && Region.free md ops d i && (Region.ready md ops d).contains i && t.pre md ops n (d.setIfInBounds i true)
  | .b1 i t, d => decide (i < n) && (Region.ready md ops d == [i]) && t.pre md ops n (d.setIfInBounds i true)
  | .b2 i t j u, d => decide (i < n) && decide (j < n) && (Region.ready md ops d == [i, j]) && t.pre md ops n (d.setIfInBounds i true) && u.pre md ops n (d.setIfInBounds j true)
  | .b3 i t j u k v, d => decide (i < n) && decide (j < n) && decide (k < n) && (Region.ready md ops d == [i, j, k]) && t.pre md ops n (d.setIfInBounds i true) && u.pre md ops n (d.setIfInBounds j true) && v.pre md ops n (d.setIfInBounds k true)
section
variable {P : Program} {l : List Oper} {Q : Exit → Act → World → Prop} {S : World → Prop}
def tbar (P : Program) (l : List Oper) (Q : Exit → Act → World → Prop) (S : World → Prop) (T : Act → World → Prop) (o : Oper) (a : Act) (w : World) : Prop :=
  ∀ K' : Act → World → Prop, Shut (∀ a w, S w → (S w → T a w) → K' a w) → if Region.wanted o (yielded l.toArray a.tmps) = true then Oper.wp P o a w K' Q else K' (a.put o.dst undef) w
def alongT (P : Program) (l : List Oper) (Q : Exit → Act → World → Prop) (S : World → Prop) : ASk → Act → World → Prop
  | .done, a, w => Q .normal a w
  | .pure i t, a, w => ∃ v, YieldsIf P l.toArray S (pickOp l i) v a ∧ alongT P l Q S t (a.put (pickOp l i).dst v) w
  | .b1 i t, a, w => tbar P l Q S (alongT P l Q S t) (pickOp l i) a w
  | .b2 i t j u, a, w => tbar P l Q S (alongT P l Q S t) (pickOp l i) a w ∧ tbar P l Q S (alongT P l Q S u) (pickOp l j) a w
  | .b3 i t j u k v, a, w => tbar P l Q S (alongT P l Q S t) (pickOp l i) a w ∧ tbar P l Q S (alongT P l Q S u) (pickOp l j) a w ∧ tbar P l Q S (alongT P l Q S v) (pickOp l k) a w
theorem alongT_sound {md : Region.Mode} (hs : Region.noSelect l.toArray = true) (hQ : ∀ c a d v w, Q (.panic c) (Act.put a d v) w → Q (.panic c) a w) :
    ∀ (t : ASk) (fuel : Nat) (d : Array Bool) (a : Act) (w : World), t.depth ≤ fuel → t.pre md l.toArray l.length d = true → S w → alongT P l Q S t a w → wpAnyH P md l.toArray Q S fuel d a w := by
  intro t
  induction t with
  | done => intro fuel d a w _ hp _ h; exact wpAnyH_done (by simpa [ASk.pre] using hp) h fuel
  | pure i t ih =>
    intro fuel d a w hd hp hS h
    obtain ⟨fuel, rfl⟩ : ∃ f, fuel = f + 1 := ⟨fuel - 1, by simp only [ASk.depth] at hd; omega⟩
    simp only [ASk.pre, Bool.and_eq_true, decide_eq_true_eq] at hp
    obtain ⟨⟨⟨hi, h1⟩, h2⟩, h3⟩ := hp
    obtain ⟨v, hy, h⟩ := h
    exact wpAnyH_take (pickOp_get l i hi) hs h1 h2 (fun c a w => hQ c a _ v w) hy hS (ih _ _ _ _ (by simp only [ASk.depth] at hd; omega) h3 hS h)
  | b1 i t ih =>
    intro fuel d a w hd hp hS h
    obtain ⟨fuel, rfl⟩ : ∃ f, fuel = f + 1 := ⟨fuel - 1, by simp only [ASk.depth] at hd; omega⟩
    simp only [ASk.pre, Bool.and_eq_true, decide_eq_true_eq, beq_iff_eq] at hp
    obtain ⟨⟨hi, h1⟩, h3⟩ := hp
    simp only [ASk.depth] at hd
    refine wpAnyH_ready h1 (by simp) ?_
    refine AllReadyH.cons (pickOp_get l i hi) (fun K' hK => ?_) AllReadyH.nil
    exact h K' (fun a' w' hS' hA => hK.out a' w' hS' (fun hS'' => ih _ _ _ _ (by omega) h3 hS'' (hA hS'')))
  | b2 i t j u ih ih2 =>
    intro fuel d a w hd hp hS h
    obtain ⟨fuel, rfl⟩ : ∃ f, fuel = f + 1 := ⟨fuel - 1, by simp only [ASk.depth] at hd; omega⟩
    simp only [ASk.pre, Bool.and_eq_true, decide_eq_true_eq, beq_iff_eq] at hp
    obtain ⟨⟨⟨⟨hi, hj⟩, h1⟩, h3⟩, h4⟩ := hp
    simp only [ASk.depth] at hd
    obtain ⟨g1, g2⟩ := h
    refine wpAnyH_ready h1 (by simp) ?_
    refine AllReadyH.cons (pickOp_get l i hi) (fun K' hK => ?_) (AllReadyH.cons (pickOp_get l j hj) (fun K' hK => ?_) AllReadyH.nil)
    · exact g1 K' (fun a' w' hS' hA => hK.out a' w' hS' (fun hS'' => ih _ _ _ _ (by omega) h3 hS'' (hA hS'')))
    · exact g2 K' (fun a' w' hS' hA => hK.out a' w' hS' (fun hS'' => ih2 _ _ _ _ (by omega) h4 hS'' (hA hS'')))
  | b3 i t j u k v ih ih2 ih3 =>
    intro fuel d a w hd hp hS h
    obtain ⟨fuel, rfl⟩ : ∃ f, fuel = f + 1 := ⟨fuel - 1, by simp only [ASk.depth] at hd; omega⟩
    simp only [ASk.pre, Bool.and_eq_true, decide_eq_true_eq, beq_iff_eq] at hp
    obtain ⟨⟨⟨⟨⟨⟨hi, hj⟩, hk⟩, h1⟩, h3⟩, h4⟩, h5⟩ := hp
    simp only [ASk.depth] at hd
    obtain ⟨g1, g2, g3⟩ := h
    refine wpAnyH_ready h1 (by simp) ?_
    refine AllReadyH.cons (pickOp_get l i hi) (fun K' hK => ?_) (AllReadyH.cons (pickOp_get l j hj) (fun K' hK => ?_) (AllReadyH.cons (pickOp_get l k hk) (fun K' hK => ?_) AllReadyH.nil))
    · exact g1 K' (fun a' w' hS' hA => hK.out a' w' hS' (fun hS'' => ih _ _ _ _ (by omega) h3 hS'' (hA hS'')))
    · exact g2 K' (fun a' w' hS' hA => hK.out a' w' hS' (fun hS'' => ih2 _ _ _ _ (by omega) h4 hS'' (hA hS'')))
    · exact g3 K' (fun a' w' hS' hA => hK.out a' w' hS' (fun hS'' => ih3 _ _ _ _ (by omega) h5 hS'' (hA hS'')))
theorem T_done {a : Act} {w : World} (h : Q .normal a w) : alongT P l Q S .done a w := h
theorem T_pure {i : Nat} {t : ASk} {a : Act} {w : World} (v : Value) (hw : Region.wanted (pickOp l i) (yielded l.toArray a.tmps) = true) (hy : ∀ w, S w → (execOp a.eval (pickOp l i)).run P w = .ok (.value v) w)
    (h : alongT P l Q S t (a.put (pickOp l i).dst v) w) : alongT P l Q S (.pure i t) a w := ⟨v, Or.inl ⟨hw, hy⟩, h⟩
theorem T_b1 {i : Nat} {t : ASk} {a : Act} {w : World} (h : ∀ K' : Act → World → Prop, Shut (∀ a w, S w → (S w → alongT P l Q S t a w) → K' a w) → if Region.wanted (pickOp l i) (yielded l.toArray a.tmps) = true then Oper.wp P (pickOp l i) a w K' Q else K' (a.put (pickOp l i).dst undef) w) :
    alongT P l Q S (.b1 i t) a w := h
theorem T_b2 {i j : Nat} {t u : ASk} {a : Act} {w : World} (h : ∀ K' : Act → World → Prop, Shut (∀ a w, S w → (S w → alongT P l Q S t a w) → K' a w) → if Region.wanted (pickOp l i) (yielded l.toArray a.tmps) = true then Oper.wp P (pickOp l i) a w K' Q else K' (a.put (pickOp l i).dst undef) w)
    (g : ∀ K' : Act → World → Prop, Shut (∀ a w, S w → (S w → alongT P l Q S u a w) → K' a w) → if Region.wanted (pickOp l j) (yielded l.toArray a.tmps) = true then Oper.wp P (pickOp l j) a w K' Q else K' (a.put (pickOp l j).dst undef) w) :
    alongT P l Q S (.b2 i t j u) a w := ⟨h, g⟩
theorem T_b3 {i j k : Nat} {t u v : ASk} {a : Act} {w : World} (h : ∀ K' : Act → World → Prop, Shut (∀ a w, S w → (S w → alongT P l Q S t a w) → K' a w) → if Region.wanted (pickOp l i) (yielded l.toArray a.tmps) = true then Oper.wp P (pickOp l i) a w K' Q else K' (a.put (pickOp l i).dst undef) w)
    (g : ∀ K' : Act → World → Prop, Shut (∀ a w, S w → (S w → alongT P l Q S u a w) → K' a w) → if Region.wanted (pickOp l j) (yielded l.toArray a.tmps) = true then Oper.wp P (pickOp l j) a w K' Q else K' (a.put (pickOp l j).dst undef) w)
    (f : ∀ K' : Act → World → Prop, Shut (∀ a w, S w → (S w → alongT P l Q S v a w) → K' a w) → if Region.wanted (pickOp l k) (yielded l.toArray a.tmps) = true then Oper.wp P (pickOp l k) a w K' Q else K' (a.put (pickOp l k).dst undef) w) :
    alongT P l Q S (.b3 i t j u k v) a w := ⟨h, g, f⟩
/-- A region that draws, walked along the tree t. -/
theorem wp_region_alongT {id : Nat} {a : Act} {w : World} (t : ASk) (hm : P.follows .mixedOrders = true) (hs : Region.noSelect l.toArray = true)
    (hd : t.depth ≤ l.length) (hp : t.pre .any l.toArray l.length (Array.replicate l.length false) = true) (hQ : ∀ c a d v w, Q (.panic c) (Act.put a d v) w → Q (.panic c) a w)
    (hS : S w.drew) (h : S w.drew → alongT P l Q S t a w.drew) : (Code.region id l.toArray true).wp P Q a w := by
  refine wp_region_held (S := S) hm ?_
  have := alongT_sound (P := P) (Q := Q) (S := S) (md := .any) hs hQ t l.toArray.size (Array.replicate l.length false) a w.drew (by simpa using hd) hp hS (h hS)
  simpa using this
end
end Go
