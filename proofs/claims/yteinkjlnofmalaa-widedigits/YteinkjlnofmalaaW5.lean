/- What the laws of layer 1 lean on besides: 'to' to the letter; how a world goes on; laws of sums. -/
import Derived.Test.YteinkjlnofmalaaW4
import Derived.Deep.DeepCutAuto
namespace Go.Proofs.Yteinkjlnofmalaa
open Go.RowKit
set_option linter.unusedVariables false

/-- Two counts together. -/
def ad (a b : Nat) : Nat := (a + b) % MM
theorem ad_lt (a b : Nat) : ad a b < MM := mod_lt _
theorem ad_comm (a b : Nat) : ad b a = ad a b := by unfold ad; rw [Nat.add_comm]
theorem ad_assoc (a b c : Nat) : ad a (ad b c) = ad (ad a b) c := by unfold ad; rw [Nat.add_mod_mod, Nat.mod_add_mod, Nat.add_assoc]
theorem ad_up (a : Nat) : upI a 1 = ad a a := by rw [show (1 : Int) = ((1 : Nat) : Int) from rfl, upI_in a 1 (by omega), up_one]; rfl
theorem sb_ad (a b : Nat) (ha : a < MM) (hb : b < MM) : sb (ad a b) b = a := sub_back a b ha hb
theorem up_34 (a : Nat) : upI (upI a 3) 4 = upI a 7 := by
  rw [show (3 : Int) = ((3 : Nat) : Int) from rfl, show (4 : Int) = ((4 : Nat) : Int) from rfl, show (7 : Int) = ((7 : Nat) : Int) from rfl, upI_in _ 3 (by omega), upI_in _ 4 (by omega), upI_in _ 7 (by omega), up_add]
theorem add_ad (a b : Nat) (ha : a < MM) (hb : b < MM) (w : World) :
    Calls Try.prog 11 #[cn a, cn b] w fun e w' => e = .returned (cn (ad a b)) ∧ Below w.heap.size w w' := add_any a b ha hb w
theorem radd_ad (a b : Nat) (ha : a < MM) (hb : b < MM) (w : World) :
    Calls Try.prog 12 #[cn a, cn b] w fun e w' => e = .returned (cn (ad a b)) ∧ Below w.heap.size w w' := radd_any a b ha hb w
theorem cmpN_bd (a b : Nat) : -1 ≤ cmpN a b ∧ cmpN a b ≤ 1 := by unfold cmpN; split; omega; split <;> omega

theorem below_al {W w : World} (h : Below W.heap.size W w) (o : Obj) : Below W.heap.size W (w.alloc o) := h.alloc h.size o
theorem below_on {W w w' : World} (h : Below W.heap.size W w) (k : Below w.heap.size w w') : Below W.heap.size W w' := h.trans (k.mono h.size)
theorem cell_lt {w : World} {b o : Nat} (h : (w.cell? ⟨b, o, none⟩).isSome = true) : b < w.heap.size := by
  rcases Nat.lt_or_ge b w.heap.size with hb | hb
  · exact hb
  · have e : w.heap[b]? = none := Array.getElem?_eq_none hb
    simp [World.cell?, e] at h
/-- What is there stays, behind a call that turns nothing old. -/
theorem bsome {W w1 : World} (hb : Below W.heap.size W w1) : (∀ b o, (W.cell? ⟨b, o, none⟩).isSome = true → w1.cell? ⟨b, o, none⟩ = W.cell? ⟨b, o, none⟩) ∧ (∀ b o, (W.cell? ⟨b, o, none⟩).isSome = true → w1.frozen? ⟨b, o, none⟩ = W.frozen? ⟨b, o, none⟩) :=
  ⟨fun b o h => hb.cell (p := ⟨b, o, none⟩) (cell_lt h), fun b o h => hb.frozen (p := ⟨b, o, none⟩) (cell_lt h)⟩
theorem below_kb {W w : World} (h : Below W.heap.size W w) : Below W.heap.size W w ∧ ∀ b o, (W.cell? ⟨b, o, none⟩).isSome = true → w.cell? ⟨b, o, none⟩ = W.cell? ⟨b, o, none⟩ := ⟨h, (bsome h).1⟩
theorem two_new {w : World} {x y : Int} {t : TypeId} : Two (w.alloc (.cells #[.int .u64 x, .int .u64 y] t)) w.heap.size x y :=
  ⟨by simp [go_sem], by simp [go_sem], by simp [go_sem], by simp [go_sem]⟩
set_option maxHeartbeats 400000 in
theorem to_exact (h l : Int) (w : World) :
    Calls Try.prog 8 #[cv h l] w fun e w' => e = .returned (cv h l) ∧ (w.alloc (.cells #[.int .u64 h, .int .u64 l] 24)).alloc (.cells #[.int .u64 h, .int .u64 l] 25) = w' := by
  go_enter Try.func8, Try.ntmps8
  go_wp2
  exact bodyPost_ret (v := cv h l) (by simp [results, Try.results8, go_sem]) rfl ⟨rfl, rfl⟩
end Go.Proofs.Yteinkjlnofmalaa
