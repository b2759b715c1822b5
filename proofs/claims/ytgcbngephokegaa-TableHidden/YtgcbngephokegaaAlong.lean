/- A region that draws its order, walked along ONE order that is named: what only reads under a condition S on the world may be taken as soon as it is ready; what turns the world must be the only one that is ready. The order is held against the region's edges by closed checks, each a lemma of its own (so that the kernel gives its memory back). No program in sight. -/
import Derived.Deep.RegionHeld3
namespace Go
section
variable {P : Program} {ops : Array Oper} {Q : Exit → Act → World → Prop} {md : Region.Mode} {S : World → Prop}

/-- Steps: number, whether it only reads, the operation itself. -/
def along (P : Program) (ops : Array Oper) (Q : Exit → Act → World → Prop) (S : World → Prop) : List (Nat × Bool × Oper) → Act → World → Prop
  | [], a, w => Q .normal a w
  | (_, true, o) :: r, a, w => ∃ v, YieldsIf P ops S o v a ∧ along P ops Q S r (a.put o.dst v) w
  | (_, false, o) :: r, a, w => ∀ K' : Act → World → Prop, Shut (∀ a w, S w → (S w → along P ops Q S r a w) → K' a w) → if Region.wanted o (yielded ops a.tmps) = true then Oper.wp P o a w K' Q else K' (a.put o.dst undef) w

/-- One step is as the region's edges want it, where those in 'listed' are done. -/
def alongStep (md : Region.Mode) (ops : Array Oper) (listed : Array Bool) (i : Nat) (b : Bool) : Bool :=
  if b then Region.free md ops listed i && (Region.ready md ops listed).contains i else Region.ready md ops listed == [i]
/-- So many steps are. -/
def alongPre (md : Region.Mode) (ops : Array Oper) : List (Nat × Bool) → Array Bool → Bool
  | [], _ => true
  | (i, b) :: r, listed => alongStep md ops listed i b && alongPre md ops r (listed.setIfInBounds i true)
/-- What is done behind so many. -/
def alongDone : List (Nat × Bool) → Array Bool → Array Bool
  | [], listed => listed
  | (i, _) :: r, listed => alongDone r (listed.setIfInBounds i true)
def alongOps (ops : Array Oper) : List (Nat × Bool × Oper) → Prop
  | [] => True
  | (i, _, o) :: r => ops[i]? = some o ∧ alongOps ops r
theorem alongPre_append (p q : List (Nat × Bool)) : ∀ listed, alongPre md ops p listed = true → alongPre md ops q (alongDone p listed) = true → alongPre md ops (p ++ q) listed = true := by
  induction p with
  | nil => intro listed _ h; exact h
  | cons x r ih =>
    obtain ⟨i, b⟩ := x
    intro listed h1 h2
    simp only [alongPre, Bool.and_eq_true] at h1
    show (alongStep md ops listed i b && alongPre md ops (r ++ q) (listed.setIfInBounds i true)) = true
    rw [Bool.and_eq_true]
    exact ⟨h1.1, ih _ h1.2 h2⟩

theorem along_sound (hs : Region.noSelect ops = true) (hQ : ∀ c a d v w, Q (.panic c) (Act.put a d v) w → Q (.panic c) a w) :
    ∀ (steps : List (Nat × Bool × Oper)) (listed : Array Bool) (a : Act) (w : World), alongOps ops steps → alongPre md ops (steps.map fun s => (s.1, s.2.1)) listed = true →
      Region.ready md ops (alongDone (steps.map fun s => (s.1, s.2.1)) listed) = [] → S w → along P ops Q S steps a w → wpAnyH P md ops Q S steps.length listed a w := by
  intro steps
  induction steps with
  | nil => intro listed a w _ _ hr _ h; exact wpAnyH_done hr h 0
  | cons s r ih =>
    obtain ⟨i, b, o⟩ := s
    intro listed a w ho hp hr hS h
    obtain ⟨hi, ho⟩ := ho
    simp only [List.map_cons, alongPre, Bool.and_eq_true] at hp
    obtain ⟨h1, h2⟩ := hp
    cases b with
    | true =>
      obtain ⟨v, hy, h⟩ := h
      simp only [alongStep, if_true, Bool.and_eq_true] at h1
      exact wpAnyH_take hi hs h1.1 h1.2 (fun c a w => hQ c a _ v w) hy hS (ih _ _ _ ho h2 hr hS h)
    | false =>
      simp only [alongStep, Bool.false_eq_true, if_false, beq_iff_eq] at h1
      refine wpAnyH_ready h1 (by simp) ?_
      refine AllReadyH.cons hi (fun K' hK => ?_) AllReadyH.nil
      refine h K' ?_
      intro a' w' hS' hA
      exact hK.out a' w' hS' (fun hS'' => ih _ _ _ ho h2 hr hS'' (hA hS''))

theorem along_pure {i : Nat} {o : Oper} {r : List (Nat × Bool × Oper)} {a : Act} {w : World} (v : Value) (hw : Region.wanted o (yielded ops a.tmps) = true) (hy : ∀ w, S w → (execOp a.eval o).run P w = .ok (.value v) w)
    (h : along P ops Q S r (a.put o.dst v) w) : along P ops Q S ((i, true, o) :: r) a w := ⟨v, Or.inl ⟨hw, hy⟩, h⟩
theorem along_bar {i : Nat} {o : Oper} {r : List (Nat × Bool × Oper)} {a : Act} {w : World}
    (h : ∀ K' : Act → World → Prop, Shut (∀ a w, S w → (S w → along P ops Q S r a w) → K' a w) → if Region.wanted o (yielded ops a.tmps) = true then Oper.wp P o a w K' Q else K' (a.put o.dst undef) w) :
    along P ops Q S ((i, false, o) :: r) a w := h
theorem along_end {a : Act} {w : World} (h : Q .normal a w) : along P ops Q S [] a w := h

/-- The operation at a place of a list. -/
def pickOp : List Oper → Nat → Oper
  | [], _ => { dst := none, op := .move (.tmp 0), type := 0, pos := "", after := #[], guard := none }
  | o :: _, 0 => o
  | _ :: r, n + 1 => pickOp r n
def stepsOf (ops : List Oper) : List (Nat × Bool) → List (Nat × Bool × Oper)
  | [] => []
  | (i, b) :: r => (i, b, pickOp ops i) :: stepsOf ops r
theorem stepsOf_map (ops : List Oper) (p : List (Nat × Bool)) : (stepsOf ops p).map (fun s => (s.1, s.2.1)) = p := by
  induction p with
  | nil => rfl
  | cons x r ih => obtain ⟨i, b⟩ := x; simp [stepsOf, ih]
theorem stepsOf_length (ops : List Oper) (p : List (Nat × Bool)) : (stepsOf ops p).length = p.length := by
  induction p with
  | nil => rfl
  | cons x r ih => obtain ⟨i, b⟩ := x; simp [stepsOf, ih]
theorem pickOp_get : ∀ (l : List Oper) (i : Nat), i < l.length → l.toArray[i]? = some (pickOp l i)
  | [], _, h => by simp at h
  | o :: _, 0, _ => by simp [pickOp]
  | _ :: r, n + 1, h => by
    have := pickOp_get r n (by simpa using h)
    simpa [pickOp] using this
theorem stepsOf_ops (l : List Oper) : ∀ (p : List (Nat × Bool)), (p.all fun x => decide (x.1 < l.length)) = true → alongOps l.toArray (stepsOf l p)
  | [], _ => trivial
  | (i, b) :: r, h => by
    simp only [List.all_cons, Bool.and_eq_true, decide_eq_true_eq] at h
    exact ⟨pickOp_get l i h.1, stepsOf_ops l r (by simpa using h.2)⟩

/-- A region that draws, walked along the order p. -/
theorem wp_region_along {id : Nat} {l : List Oper} {a : Act} {w : World} (p : List (Nat × Bool)) (hm : P.follows .mixedOrders = true) (hs : Region.noSelect l.toArray = true)
    (hin : (p.all fun x => decide (x.1 < l.length)) = true) (hlen : p.length = l.length) (hp : alongPre .any l.toArray p (Array.replicate l.length false) = true)
    (hr : Region.ready .any l.toArray (alongDone p (Array.replicate l.length false)) = []) (hQ : ∀ c a d v w, Q (.panic c) (Act.put a d v) w → Q (.panic c) a w)
    (hS : S w.drew) (h : S w.drew → along P l.toArray Q S (stepsOf l p) a w.drew) : (Code.region id l.toArray true).wp P Q a w := by
  refine wp_region_held (S := S) hm ?_
  have := along_sound (P := P) (Q := Q) (S := S) (md := .any) hs hQ (stepsOf l p) (Array.replicate l.length false) a w.drew (stepsOf_ops l p hin) (by rw [stepsOf_map]; exact hp) (by rw [stepsOf_map]; exact hr) hS (h hS)
  rw [stepsOf_length, hlen] at this
  simpa using this
end
end Go
