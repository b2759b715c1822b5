/- What is wrong with a port; whether a topology has few parts. -/
import Derived.Test.YtoiopjdbmaffeaaTM
namespace Go.Proofs.Ytoiopjdbmaffeaa
open Go.RowKit
set_option linter.unusedVariables false

set_option maxRecDepth 100000 in
set_option maxHeartbeats 1000000 in
theorem light_any (pa : Option Addr) (np pc : Nat) (la : Option Addr) (nl lc : Nat) (aa : Option Addr) (na ac : Nat) (w : World) :
    Calls Try.prog 4 #[tv pa np pc la nl lc aa na ac] w fun e w' => e = .returned (.bool (decide (np ≤ 40) && decide (nl ≤ 100) && decide (na ≤ 60))) ∧ Below w.heap.size w w' := by
  unfold tv
  by_cases c1 : np ≤ 40
  · have c1' : decide ((np : Int) ≤ 40) = true := decide_eq_true (by omega)
    by_cases c2 : nl ≤ 100
    · have c2' : decide ((nl : Int) ≤ 100) = true := decide_eq_true (by omega)
      go_enter Try.func4, Try.ntmps4
      go_wp2
      go_ret
      exact ⟨cret_bool (by simp [c1, c2]; omega), cbelow_al (Below.refl _ _) _⟩
    · have c2' : decide ((nl : Int) ≤ 100) = false := decide_eq_false (by omega)
      go_enter Try.func4, Try.ntmps4
      go_wp2
      go_ret
      exact ⟨cret_bool (by simp [c1, c2]), cbelow_al (Below.refl _ _) _⟩
  · have c1' : decide ((np : Int) ≤ 40) = false := decide_eq_false (by omega)
    go_enter Try.func4, Try.ntmps4
    go_wp2
    go_ret
    exact ⟨cret_bool (by simp [c1]), cbelow_al (Below.refl _ _) _⟩
theorem ints_get {l : List Int} {k : Nat} (h : k < l.length) : (ints l)[k]? = some (.int .i64 (l.getD k 0)) := by
  unfold ints
  rw [List.getElem?_map, List.getElem?_eq_getElem h, List.getD_eq_getElem?_getD, List.getElem?_eq_getElem h]; rfl
set_option maxRecDepth 100000 in
set_option maxHeartbeats 1000000 in
theorem port_any (ps : List Int) (pa : Option Addr) (pc : Nat) (la : Option Addr) (nl lc : Nat) (aa : Option Addr) (na ac : Nat) (d p : Int) (w : World) (hr : Rw w pa (ints ps)) :
    Calls Try.prog 20 #[tv pa ps.length pc la nl lc aa na ac, .int .i64 d, .int .i64 p] w fun e w' => e = .returned (.int .i64 (portE ps d p)) ∧ Below w.heap.size w w' := by
  unfold tv
  by_cases c1 : d < 0
  · have c1' : decide (d < 0) = true := decide_eq_true c1
    have e : portE ps d p = 10 := by unfold portE; rw [if_pos (Or.inl c1)]
    rw [e]
    go_enter Try.func20, Try.ntmps20
    go_wp2
    go_ret
    exact ⟨rfl, cbelow_al (Below.refl _ _) _⟩
  · have c1' : decide (d < 0) = false := decide_eq_false c1
    by_cases c2 : (ps.length : Int) ≤ d
    · have c2' : decide ((ps.length : Int) ≤ d) = true := decide_eq_true c2
      have e : portE ps d p = 10 := by unfold portE; rw [if_pos (Or.inr c2)]
      rw [e]
      go_enter Try.func20, Try.ntmps20
      go_wp2
      go_ret
      exact ⟨rfl, cbelow_al (Below.refl _ _) _⟩
    · have c2' : decide ((ps.length : Int) ≤ d) = false := decide_eq_false c2
      obtain ⟨k, rfl⟩ := Int.eq_ofNat_of_zero_le (show 0 ≤ d by omega)
      have hk : k < ps.length := by omega
      have e : portE ps k p = if p < 0 ∨ ps.getD k 0 ≤ p then 11 else 0 := by unfold portE; rw [if_neg (by omega)]; rfl
      rw [e]
      obtain ⟨b, off, rfl, -⟩ := hr k _ (ints_get hk)
      have hc := hr.cell (ints_get hk)
      have hc' : ∀ o, (w.alloc o).cell? ⟨b, off + k, none⟩ = some (.int .i64 (ps.getD k 0)) := fun o => (hr.on (cbelow_al (Below.refl _ _) o)).cell (ints_get hk)
      generalize ps.getD k 0 = q at *
      generalize ps.length = n at *
      clear hr e
      by_cases c3 : p < 0
      · have c3' : decide (p < 0) = true := decide_eq_true c3
        rw [if_pos (Or.inl c3)]
        go_enter Try.func20, Try.ntmps20
        go_wp2
        go_ret
        exact ⟨rfl, cbelow_al (Below.refl _ _) _⟩
      · have c3' : decide (p < 0) = false := decide_eq_false c3
        by_cases c4 : q ≤ p
        · have c4' : decide (q ≤ p) = true := decide_eq_true c4
          rw [if_pos (Or.inr c4)]
          go_enter Try.func20, Try.ntmps20
          go_wp2
          go_ret
          exact ⟨rfl, cbelow_al (Below.refl _ _) _⟩
        · have c4' : decide (q ≤ p) = false := decide_eq_false c4
          rw [if_neg (by omega)]
          go_enter Try.func20, Try.ntmps20
          go_wp2
          go_ret
          exact ⟨rfl, cbelow_al (Below.refl _ _) _⟩
set_option maxRecDepth 100000 in
set_option maxHeartbeats 1000000 in
theorem rport_any (ps : List Int) (pa : Option Addr) (pc : Nat) (la : Option Addr) (nl lc : Nat) (aa : Option Addr) (na ac : Nat) (d p : Int) (w : World) (hr : Rw w pa (ints ps)) :
    Calls Try.prog 6 #[tv pa ps.length pc la nl lc aa na ac, .int .i64 d, .int .i64 p] w fun e w' => e = .returned (.int .i64 (portE ps d p)) ∧ Below w.heap.size w w' := by
  unfold tv
  by_cases c1 : d < 0
  · have c1' : decide (d < 0) = true := decide_eq_true c1
    have e : portE ps d p = 10 := by unfold portE; rw [if_pos (Or.inl c1)]
    rw [e]
    go_enter Try.func6, Try.ntmps6
    go_wp2
    go_ret
    exact ⟨rfl, cbelow_al (Below.refl _ _) _⟩
  · have c1' : decide (d < 0) = false := decide_eq_false c1
    by_cases c2 : (ps.length : Int) ≤ d
    · have c2' : decide ((ps.length : Int) ≤ d) = true := decide_eq_true c2
      have e : portE ps d p = 10 := by unfold portE; rw [if_pos (Or.inr c2)]
      rw [e]
      go_enter Try.func6, Try.ntmps6
      go_wp2
      go_ret
      exact ⟨rfl, cbelow_al (Below.refl _ _) _⟩
    · have c2' : decide ((ps.length : Int) ≤ d) = false := decide_eq_false c2
      obtain ⟨k, rfl⟩ := Int.eq_ofNat_of_zero_le (show 0 ≤ d by omega)
      have hk : k < ps.length := by omega
      have e : portE ps k p = if p < 0 ∨ ps.getD k 0 ≤ p then 11 else 0 := by unfold portE; rw [if_neg (by omega)]; rfl
      rw [e]
      obtain ⟨b, off, rfl, -⟩ := hr k _ (ints_get hk)
      have hc := hr.cell (ints_get hk)
      have hc' : ∀ o, (w.alloc o).cell? ⟨b, off + k, none⟩ = some (.int .i64 (ps.getD k 0)) := fun o => (hr.on (cbelow_al (Below.refl _ _) o)).cell (ints_get hk)
      generalize ps.getD k 0 = q at *
      generalize ps.length = n at *
      clear hr e
      by_cases c3 : p < 0
      · have c3' : decide (p < 0) = true := decide_eq_true c3
        rw [if_pos (Or.inl c3)]
        go_enter Try.func6, Try.ntmps6
        go_wp2
        go_ret
        exact ⟨rfl, cbelow_al (Below.refl _ _) _⟩
      · have c3' : decide (p < 0) = false := decide_eq_false c3
        by_cases c4 : q ≤ p
        · have c4' : decide (q ≤ p) = true := decide_eq_true c4
          rw [if_pos (Or.inr c4)]
          go_enter Try.func6, Try.ntmps6
          go_wp2
          go_ret
          exact ⟨rfl, cbelow_al (Below.refl _ _) _⟩
        · have c4' : decide (q ≤ p) = false := decide_eq_false c4
          rw [if_neg (by omega)]
          go_enter Try.func6, Try.ntmps6
          go_wp2
          go_ret
          exact ⟨rfl, cbelow_al (Below.refl _ _) _⟩
end Go.Proofs.Ytoiopjdbmaffeaa
