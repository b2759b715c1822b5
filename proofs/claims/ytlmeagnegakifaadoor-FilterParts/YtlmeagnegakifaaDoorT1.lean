/- Plain: a prefix and a range as texts, and read back. -/
import Derived.Test.YtlmeagnegakifaaDoorHQ
import Derived.Test.YtlmeagnegakifaaDoorCM
import Derived.Test.YtlmeagnegakifaaDoorH21
import Derived.Lib.IndexMore
namespace Go.Proofs.YtlmeagnegakifaaDoor
open Lib (decDigits)
open Go.RowKit
set_option linter.unusedVariables false

/-- Ahead of the first byte c, and behind it. -/
def ct (c : UInt8) : List UInt8 → Option (List UInt8 × List UInt8)
  | [] => none
  | b :: r => if b = c then some ([], r) else match ct c r with
    | none => none
    | some (x, y) => some (b :: x, y)
theorem ct_none (c : UInt8) : ∀ l, c ∉ l → ct c l = none
  | [], _ => rfl
  | b :: r, h => by rw [ct, if_neg (fun e => h (by rw [e]; simp)), ct_none c r (fun q => h (List.mem_cons_of_mem _ q))]
theorem ct_app (c : UInt8) (r : List UInt8) : ∀ l, c ∉ l → ct c (l ++ c :: r) = some (l, r)
  | [], _ => by rw [List.nil_append, ct, if_pos rfl]
  | b :: l, h => by rw [List.cons_append, ct, if_neg (fun e => h (by rw [e]; simp)), ct_app c r l (fun q => h (List.mem_cons_of_mem _ q))]
theorem ct_some (c : UInt8) : ∀ l x y, ct c l = some (x, y) → l = x ++ c :: y ∧ c ∉ x
  | [], x, y, h => by cases h
  | b :: r, x, y, h => by
    rw [ct] at h
    by_cases e : b = c
    · rw [if_pos e] at h; simp only [Option.some.injEq, Prod.mk.injEq] at h; rw [← h.1, ← h.2, e]; exact ⟨rfl, by simp⟩
    · rw [if_neg e] at h
      cases q : ct c r with
      | none => rw [q] at h; cases h
      | some p =>
        obtain ⟨x', y'⟩ := p
        rw [q] at h
        simp only [Option.some.injEq, Prod.mk.injEq] at h
        obtain ⟨h1, h2⟩ := ct_some c r x' y' q
        rw [← h.1, ← h.2, h1]
        exact ⟨rfl, by simp only [List.mem_cons, not_or]; exact ⟨fun q => e q.symm, h2⟩⟩
theorem ct_lens {c : UInt8} {l x y : List UInt8} (h : ct c l = some (x, y)) : x.length ≤ l.length ∧ y.length ≤ l.length := by
  have := (ct_some c l x y h).1
  rw [this]; simp; omega
/-- What strings.Cut answers. -/
def cutT (c : UInt8) (s : ByteArray) : ByteArray × ByteArray × Bool := match ct c s.data.toList with
  | none => (s, ⟨#[]⟩, false)
  | some (x, y) => (mkS x, mkS y, true)
/-- What the document's Cut answers. -/
def rcutT (c : UInt8) (s : ByteArray) : ByteArray × ByteArray × Bool := match ct c s.data.toList with
  | none => (⟨#[]⟩, ⟨#[]⟩, false)
  | some (x, y) => (mkS x, mkS y, true)
theorem index_no (c : UInt8) : ∀ l, c ∉ l → Lib.index l [c] = -1
  | [], _ => by simp [Lib.index]
  | b :: l, h => by rw [index_cons, if_neg (fun e => h (by rw [e]; simp)), if_pos (index_no c l (fun q => h (List.mem_cons_of_mem _ q)))]
theorem index_at (c : UInt8) (r : List UInt8) : ∀ l, c ∉ l → Lib.index (l ++ c :: r) [c] = (l.length : Int)
  | [], _ => by rw [List.nil_append, index_cons, if_pos rfl]; rfl
  | b :: l, h => by
    have ih := index_at c r l (fun q => h (List.mem_cons_of_mem _ q))
    rw [List.cons_append, index_cons, if_neg (fun e => h (by rw [e]; simp)), ih, if_neg (by omega)]; simp
theorem cut_ct (c : UInt8) (s : ByteArray) : (⟨(Lib.cut s.data.toList [c]).1.toArray⟩, ⟨(Lib.cut s.data.toList [c]).2.1.toArray⟩, (Lib.cut s.data.toList [c]).2.2) = cutT c s := by
  unfold cutT
  cases q : ct c s.data.toList with
  | none =>
    have hn : c ∉ s.data.toList := fun hm => by
      obtain ⟨a, b, e, h1⟩ := List.append_of_mem hm |>.elim fun a h => h.elim fun b e => (⟨a, b, e, trivial⟩ : ∃ a b, s.data.toList = a ++ c :: b ∧ True)
      clear h1
      have key : ∀ (a b : List UInt8), ct c (a ++ c :: b) ≠ none := by
        intro a
        induction a with
        | nil => intro b h; rw [List.nil_append, ct, if_pos rfl] at h; cases h
        | cons x a ih =>
          intro b h
          rw [List.cons_append, ct] at h
          split at h
          · cases h
          · cases q : ct c (a ++ c :: b) with
            | none => exact ih b q
            | some p => rw [q] at h; cases h
      rw [e] at q
      exact key a b q
    rw [Lib.cut, index_no c _ hn, if_neg (by omega)]
  | some p =>
    obtain ⟨x, y⟩ := p
    obtain ⟨h1, h2⟩ := ct_some c _ x y q
    rw [Lib.cut, h1, index_at c y x h2, if_pos (by omega)]
    simp [mkS]
/-- A prefix of an address and a number, or what is wrong first. -/
def pfx (a n : Nat × Int) : (Nat × Nat) × Int := if a.2 = 0 then (if n.2 = 0 then (if rightB a.1 n.1 = true then ((a.1, n.1), 0) else ((0, 0), 13)) else ((0, 0), n.2)) else ((0, 0), a.2)
def parseP (l : List UInt8) : (Nat × Nat) × Int := match ct 47 l with
  | none => ((0, 0), 6)
  | some (x, y) => pfx (parseA x) (nz 32 y)
def rng (x y : Nat × Int) : (Nat × Nat) × Int := if x.2 = 0 then (if y.2 = 0 then (if y.1 < x.1 then ((0, 0), 14) else ((x.1, y.1), 0)) else ((0, 0), y.2)) else ((0, 0), x.2)
def parseR (l : List UInt8) : (Nat × Nat) × Int := match ct 45 l with
  | none => ((0, 0), 6)
  | some (x, y) => rng (nz 65535 x) (nz 65535 y)
/-- A prefix' text, a range's text. -/
def preT (a n : Nat) : ByteArray := ⟨((addrT a).data.toList ++ 47 :: decDigits n).toArray⟩
def rngT (l h : Nat) : ByteArray := ⟨(decDigits l ++ 45 :: decDigits h).toArray⟩
theorem parseP_pre (a n : Nat) (ha : a < 4294967296) (hr : rightB a n = true) : parseP (preT a n).data.toList = ((a, n), 0) := by
  have hn : (n : Int) ≤ 32 := (of_decide_eq_true hr).2.1
  have e : (preT a n).data.toList = (addrT a).data.toList ++ 47 :: decDigits n := by rw [preT]
  rw [parseP, e, ct_app 47 _ _ (addrT_not a 47 (by decide) (by decide))]
  show pfx _ _ = _
  rw [parseA_addr a ha, nz_dec 32 n (by omega)]
  unfold pfx
  rw [if_pos rfl, if_pos rfl, if_pos hr]
theorem parseR_rng (l h : Nat) (hl : l ≤ h) (hh : h < 65536) : parseR (rngT l h).data.toList = ((l, h), 0) := by
  have e : (rngT l h).data.toList = decDigits l ++ 45 :: decDigits h := by rw [rngT]
  rw [parseR, e, ct_app 45 _ _ (dd_not l 45 (by decide))]
  show rng _ _ = _
  rw [nz_dec 65535 l (by omega), nz_dec 65535 h (by omega)]
  unfold rng
  rw [if_pos rfl, if_pos rfl, if_neg (by omega)]
/-- Block b holds two cells of kinds k and m, free to be written. -/
def Pr (k m : IntKind) (w : World) (b : Nat) (u v : Int) : Prop := (w.cell? ⟨b, 0, none⟩ = some (.int k u) ∧ w.cell? ⟨b, 1, none⟩ = some (.int m v)) ∧ w.frozen? ⟨b, 0, none⟩ = false ∧ w.frozen? ⟨b, 1, none⟩ = false
theorem Pr.on {k m : IntKind} {w w' : World} {b : Nat} {u v : Int} (h : Pr k m w b u v) (hb : Below w.heap.size w w') : Pr k m w' b u v := by
  have hl : b < w.heap.size := cell_lt (o := 0) (by rw [h.1.1]; rfl)
  obtain ⟨⟨h1, h2⟩, f1, f2⟩ := h
  exact ⟨⟨(hb.cell (p := ⟨b, 0, none⟩) hl).trans h1, (hb.cell (p := ⟨b, 1, none⟩) hl).trans h2⟩, (hb.frozen (p := ⟨b, 0, none⟩) hl).trans f1, (hb.frozen (p := ⟨b, 1, none⟩) hl).trans f2⟩
theorem Pr.new (k m : IntKind) (w : World) (t : TypeId) (u v : Int) : Pr k m (w.alloc (Obj.cells #[.int k u, .int m v] t)) w.heap.size u v := ⟨⟨by simp [go_sem], by simp [go_sem]⟩, by simp [go_sem], by simp [go_sem]⟩
theorem Pr.put {k m : IntKind} {w : World} {b : Nat} {u v : Int} (h : Pr k m w b u v) (u' v' : Int) : Pr k m ((w.setCell ⟨b, 0, none⟩ (.int k u')).setCell ⟨b, 1, none⟩ (.int m v')) b u' v' := by
  obtain ⟨⟨h1, h2⟩, f1, f2⟩ := h
  refine ⟨⟨?_, ?_⟩, by simp [f1], by simp [f2]⟩
  · rw [World.cell?_setCell_other _ _ _ _ (by simp)]; exact World.cell?_setCell_same _ _ _ h1
  · exact World.cell?_setCell_same _ _ _ (by rw [World.cell?_setCell_other _ _ _ _ (by simp)]; exact h2)
theorem below_put2 {w0 w : World} {n b : Nat} (h : Below n w0 w) (hb : n ≤ b) (v1 v2 : Value) : Below n w0 ((w.setCell ⟨b, 0, none⟩ v1).setCell ⟨b, 1, none⟩ v2) := (h.setCell hb _).setCell hb _
theorem at_pr {Q : World → Prop} {k m : IntKind} {W w : World} {b n : Nat} {u v : Int} (h : Pr k m W b u v) (hb : Below n w W) (c : ∀ W, Pr k m W b u v → Below n w W → Q W) : Q W := c W h hb
end Go.Proofs.YtlmeagnegakifaaDoor
