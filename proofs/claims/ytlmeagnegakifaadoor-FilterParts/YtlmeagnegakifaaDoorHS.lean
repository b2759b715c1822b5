/- Plain: a text's parts between bytes; an address of four numbers. -/
import Derived.Test.YtlmeagnegakifaaDoorHP
import Derived.Lib.Split
namespace Go.Proofs.YtlmeagnegakifaaDoor
set_option linter.unusedVariables false

/-- The parts of a text between bytes c. -/
def sp (c : UInt8) : List UInt8 → List (List UInt8)
  | [] => [[]]
  | b :: r => if b = c then [] :: sp c r else
    match sp c r with
    | [] => [[b]]
    | h :: t => (b :: h) :: t
theorem sp_ne (c : UInt8) : ∀ l, sp c l ≠ []
  | [] => by simp [sp]
  | b :: r => by
    rw [sp]; split
    · simp
    · split <;> simp
theorem sp_len (c : UInt8) : ∀ l, 1 ≤ (sp c l).length ∧ (sp c l).length ≤ l.length + 1
  | [] => by simp [sp]
  | b :: r => by
    have := sp_len c r
    rw [sp]; split
    · simp; omega
    · split
      · simp
      · rename_i h t e; rw [e] at this; simp at this ⊢; omega
theorem index_cons (c b : UInt8) (l : List UInt8) : Lib.index (b :: l) [c] = if b = c then 0 else if Lib.index l [c] = -1 then -1 else Lib.index l [c] + 1 := by
  rw [Lib.index]
  by_cases h : b = c
  · subst h; simp [List.isPrefixOf]
  · have : ([c].isPrefixOf (b :: l)) = false := by simp [List.isPrefixOf]; exact fun e => h e.symm
    rw [this, if_neg h]
    simp
theorem sp_index (c : UInt8) : ∀ l, (Lib.index l [c] = -1 ∧ sp c l = [l]) ∨ ∃ i : Nat, Lib.index l [c] = i ∧ i < l.length ∧ sp c l = l.take i :: sp c (l.drop (i + 1))
  | [] => Or.inl ⟨by simp [Lib.index], rfl⟩
  | b :: l => by
    rw [index_cons]
    by_cases h : b = c
    · exact Or.inr ⟨0, by rw [if_pos h]; rfl, by simp, by rw [sp, if_pos h]; simp⟩
    · rw [if_neg h]
      rcases sp_index c l with ⟨h1, h2⟩ | ⟨i, h1, h2, h3⟩
      · exact Or.inl ⟨by rw [if_pos h1], by rw [sp, if_neg h, h2]⟩
      · refine Or.inr ⟨i + 1, by rw [h1, if_neg (by omega)]; omega, by simp; omega, ?_⟩
        rw [sp, if_neg h, h3]
        simp
theorem splitK_sp (c : UInt8) : ∀ k l, (Lib.splitK [c] 0 k l).length = min (k + 1) (sp c l).length ∧ ((sp c l).length ≤ k + 1 → Lib.splitK [c] 0 k l = sp c l)
  | 0, l => by
    have h1 := (sp_len c l).1
    refine ⟨by simp [Lib.splitK]; omega, fun h => ?_⟩
    rcases sp_index c l with ⟨_, h2⟩ | ⟨i, _, _, h3⟩
    · rw [h2]; rfl
    · have := (sp_len c (l.drop (i + 1))).1
      rw [h3, List.length_cons] at h; omega
  | k + 1, l => by
    rcases sp_index c l with ⟨h1, h2⟩ | ⟨i, h1, h2, h3⟩
    · have e : Lib.splitK [c] 0 (k + 1) l = [l] := by rw [Lib.splitK, h1]; rfl
      rw [e, h2]; exact ⟨by simp, fun _ => rfl⟩
    · have e : Lib.splitK [c] 0 (k + 1) l = l.take i :: Lib.splitK [c] 0 k (l.drop (i + 1)) := by
        rw [Lib.splitK, h1, if_neg (by simp)]; rfl
      obtain ⟨g1, g2⟩ := splitK_sp c k (l.drop (i + 1))
      rw [e, h3]
      refine ⟨by rw [List.length_cons, List.length_cons, g1]; omega, fun h => ?_⟩
      rw [g2 (by rw [List.length_cons] at h; omega)]
/-- The parts as SplitN cuts them, told by how many there may be. -/
theorem splitN_sp (c : UInt8) (m : Nat) (l : List UInt8) (hm : 1 ≤ m) : (Lib.splitK [c] 0 (min (m + 1) (l.length + 1) - 1) l).length = min (m + 1) (sp c l).length ∧ ((sp c l).length ≤ m → Lib.splitK [c] 0 (min (m + 1) (l.length + 1) - 1) l = sp c l) := by
  have h := (sp_len c l).2
  obtain ⟨g1, g2⟩ := splitK_sp c (min (m + 1) (l.length + 1) - 1) l
  exact ⟨by rw [g1]; omega, fun h1 => g2 (by omega)⟩
/-- Four numbers, each up to 255; what is wrong first. -/
def pgo : List (List UInt8) → Nat → Nat × Int
  | [], a => (a, 0)
  | p :: r, a => if (nz 255 p).2 = 0 then pgo r (a * 256 + (nz 255 p).1) else (0, (nz 255 p).2)
def parseA (l : List UInt8) : Nat × Int := if (sp 46 l).length = 4 then pgo (sp 46 l) 0 else (0, 6)
theorem ngo_le (m : Nat) : ∀ (l : List UInt8) (f : Bool) (c : Nat), c ≤ m → (ngo m l f c).1 ≤ m ∧ ((ngo m l f c).2 = 0 ∨ (ngo m l f c).2 = 5 ∨ (ngo m l f c).2 = 6)
  | [], _, c, h => ⟨h, Or.inl rfl⟩
  | b :: r, f, c, h => by
    rw [ngo]; split
    · exact ⟨Nat.zero_le _, Or.inr (Or.inr rfl)⟩
    · split
      · exact ⟨Nat.zero_le _, Or.inr (Or.inl rfl)⟩
      · exact ngo_le m r _ _ (by omega)
theorem nz_le (m : Nat) (l : List UInt8) : (nz m l).1 ≤ m ∧ ((nz m l).2 = 0 ∨ (nz m l).2 = 5 ∨ (nz m l).2 = 6) := by
  rw [nz]; split
  · exact ⟨Nat.zero_le _, Or.inr (Or.inr rfl)⟩
  · exact ngo_le m l _ _ (Nat.zero_le _)
end Go.Proofs.YtlmeagnegakifaaDoor
