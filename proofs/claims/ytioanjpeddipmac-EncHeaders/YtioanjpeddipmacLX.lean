/- EncHeaders: any two headers. -/
import Derived.Test.YtioanjpeddipmacL0
import Derived.Test.YtioanjpeddipmacL1
import Derived.Test.YtioanjpeddipmacL2
import Derived.Test.YtioanjpeddipmacL3
import Derived.Test.YtioanjpeddipmacL4
import Derived.Test.YtioanjpeddipmacL5
namespace Go.Proofs.Ytioanjpeddipmac
open Go.RowKit
set_option linter.unusedVariables false

theorem encH_any (d s q x y d' s' q' x' y' : Nat) (h : HB d s q x y) (h' : HB d' s' q' x' y') (W : World) :
    Calls Try.prog 5 #[hv d s q x y, hv d' s' q' x' y'] W fun e w' => e = .returned (.bool true) ∧ Below W.heap.size W w' := by
  obtain ⟨a, b, ns1, ns2, D⟩ := duo2 h h'
  have C1 : Hid (∀ Z p w, Sta Z p w 1024 [bot, top] → Calls Try.prog 21 #[.pointer (some ⟨p, 0, none⟩), hv d s q x y] w fun e w' => e = .returned (.tuple #[.int .i64 (a : Nat), .int .i64 0]) ∧ Sta Z p w' 1024 ns1 ∧ Hold Z w w') := fun Z p w k => by
    have c := header_any k d s q x y h
    rw [D.r1] at c
    exact c
  have C2 : Hid (∀ Z p w, Sta Z p w 1024 ns1 → Calls Try.prog 21 #[.pointer (some ⟨p, 0, none⟩), hv d' s' q' x' y'] w fun e w' => e = .returned (.tuple #[.int .i64 (b : Nat), .int .i64 0]) ∧ Sta Z p w' 1024 ns2 ∧ Hold Z w w') := fun Z p w k => by
    have c := header_any k d' s' q' x' y' h'
    rw [D.r2] at c
    exact c
  have C3 : Hid (∀ Z p w, Sta Z p w 1024 ns2 → Calls Try.prog 13 #[.pointer (some ⟨p, 0, none⟩), .int .i64 (a : Nat), hv d s q x y] w fun e w' => e = .returned (.bool true) ∧ Below w.heap.size w w') := fun Z p w k => by
    have c := sIn k a d s q x y h D.a2
    rw [D.hh] at c
    exact c
  have C4 : Hid (∀ Z p w, Sta Z p w 1024 ns2 → Calls Try.prog 13 #[.pointer (some ⟨p, 0, none⟩), .int .i64 (a : Nat), hv d' s' q' x' y'] w fun e w' => e = .returned (.bool (decide (d = d' ∧ s = s' ∧ q = q' ∧ x = x' ∧ y = y'))) ∧ Below w.heap.size w w') := fun Z p w k => by
    have c := sIn k a d' s' q' x' y' h' D.a2
    rw [D.hg] at c
    exact c
  have E := D.eq
  clear D
  by_cases hT : d = d' ∧ s = s' ∧ q = q' ∧ x = x' ∧ y = y'
  · rw [decide_eq_true hT] at E C4
    have hab : a = b := of_decide_eq_true E
    obtain ⟨rfl, rfl, rfl, rfl, rfl⟩ := hT
    subst hab
    exact encH5 d s q x y a ns1 ns2 W C1 C2 C3 C4
  · rw [decide_eq_false hT] at E C4
    have hab : a ≠ b := of_decide_eq_false E
    by_cases h0 : d = d'
    · subst h0
      by_cases h1 : s = s'
      · subst h1
        by_cases h2 : q = q'
        · subst h2
          by_cases h3 : x = x'
          · subst h3
            exact encH4 d s q x y y' a b ns1 ns2 (fun e => hT ⟨rfl, rfl, rfl, rfl, e⟩) hab W C1 C2 C3 C4
          · exact encH3 d s q x y x' y' a b ns1 ns2 h3 hab W C1 C2 C3 C4
        · exact encH2 d s q x y q' x' y' a b ns1 ns2 h2 hab W C1 C2 C3 C4
      · exact encH1 d s q x y s' q' x' y' a b ns1 ns2 h1 hab W C1 C2 C3 C4
    · exact encH0 d s q x y d' s' q' x' y' a b ns1 ns2 h0 hab W C1 C2 C3 C4
end Go.Proofs.Ytioanjpeddipmac
