/- Ports: how many bits are free; whether a range has one. -/
import Derived.Test.YtlmeagnegakifaaDoorC1
import Derived.Test.YtlmeagnegakifaaDoorCB
import Derived.Test.YtlmeagnegakifaaDoorShelf
namespace Go.Proofs.YtlmeagnegakifaaDoor
open Go.RowKit
set_option linter.unusedVariables false

/-- The table lies where the program has it. -/
def DbTab (w : World) : Prop := ∀ i, i < 32 → w.cell? ⟨1, i, none⟩ = some (.int .u8 (dbTab.getD i 0))
theorem DbTab.lt {w : World} (h : DbTab w) : 1 < w.heap.size := by
  have h0 := h 0 (by omega)
  rcases Nat.lt_or_ge 1 w.heap.size with hb | hb
  · exact hb
  · simp [World.cell?, Array.getElem?_eq_none hb] at h0
theorem DbTab.on {w w' : World} (h : DbTab w) (hb : Below w.heap.size w w') : DbTab w' := fun i hi => (hb.cell (p := ⟨1, i, none⟩) h.lt).trans (h i hi)
theorem DbTab.drew {w : World} (h : DbTab w) : DbTab w.drew := h
theorem DbTab.al {w : World} (h : DbTab w) (o : Obj) : DbTab (w.alloc o) := h.on (cbelow_al (Below.refl _ _) o)
theorem bits_and_u16 (a b : Nat) (ha : a < 65536) (hb : b < 65536) : bits .and .u16 (a : Int) (b : Int) = ((a &&& b : Nat) : Int) := by
  have hf : a &&& b < 65536 := Nat.lt_of_le_of_lt Nat.and_le_left ha
  unfold bits
  have e : (BitVec.ofInt 16 (a : Int) &&& BitVec.ofInt 16 (b : Int)).toNat = a &&& b := by
    rw [BitVec.ofInt_natCast, BitVec.ofInt_natCast, BitVec.toNat_and, BitVec.toNat_ofNat, BitVec.toNat_ofNat, Nat.mod_eq_of_lt ha, Nat.mod_eq_of_lt hb]
  show IntKind.u16.wrap (((BitVec.ofInt 16 (a : Int) &&& BitVec.ofInt 16 (b : Int)).toNat : Nat) : Int) = _
  rw [e, IntKind.wrap_u16]; omega
set_option maxHeartbeats 1000000 in
theorem tz_any (x : Nat) (hx : x < 65536) (w : World) (ht : DbTab w) :
    Calls Tryd.prog 84 #[.int .u16 x] w fun e w' => e = .returned (.int .i64 (tz x)) ∧ w = w' := by
  by_cases h0 : x = 0
  · subst h0
    rw [show tz 0 = 16 from by decide]
    clear ht
    go_enter Tryd.func84, Tryd.ntmps84
    go_wp2
    go_ret
    exact ⟨rfl, rfl⟩
  · obtain ⟨h1, h2⟩ := db_ok x h0 hx
    have hc := ht _ h1
    rw [h2] at hc
    clear ht h2
    have e0 : ((x : Int) == 0) = false := by simp; omega
    have e1 : IntKind.u16.wrap (-(x : Int)) = ((65536 - x : Nat) : Int) := by rw [IntKind.wrap_u16]; omega
    have e2 : bits .and .u16 (x : Int) ((65536 - x : Nat) : Int) = ((x &&& (65536 - x) : Nat) : Int) := bits_and_u16 _ _ hx (by omega)
    have hl : x &&& (65536 - x) ≤ x := Nat.and_le_left
    have hd : dbAt x = (x &&& (65536 - x)) * 125613361 % 4294967296 / 134217728 := rfl
    generalize dbAt x = j at *
    generalize (x &&& (65536 - x)) = y at *
    have hc' : w.cell? ⟨1, y * 125613361 % 4294967296 / 134217728, none⟩ = some (.int .u8 (tz x : Int)) := by rw [← hd]; exact hc
    have ht16 : tz x ≤ 16 := tzA_le 16 x
    generalize tz x = z at *
    generalize (65536 - x) = x2 at *
    clear hd hl h1 hc
    go_enter Tryd.func84, Tryd.ntmps84
    go_wp2
    go_ret
    exact ⟨rfl, rfl⟩
def inR (l h p : Nat) : Bool := decide (l ≤ p ∧ p ≤ h)
set_option maxHeartbeats 400000 in
theorem in_any (l h p : Nat) (w : World) : Calls Tryd.prog 60 #[.agg #[.int .u16 l, .int .u16 h], .int .u16 p] w fun e w' => e = .returned (.bool (inR l h p)) ∧ w.alloc (.cells #[.int .u16 l, .int .u16 h] 47) = w' := by
  unfold inR
  by_cases c : l ≤ p
  · by_cases d : p ≤ h
    · rw [decide_eq_true (And.intro c d)]
      go_enter Tryd.func60, Tryd.ntmps60
      go_wp2
      go_ret
      exact ⟨cret_bool (by simp; try omega), rfl⟩
    · rw [decide_eq_false (by omega)]
      go_enter Tryd.func60, Tryd.ntmps60
      go_wp2
      go_ret
      exact ⟨cret_bool (by simp; try omega), rfl⟩
  · rw [decide_eq_false (by omega)]
    go_enter Tryd.func60, Tryd.ntmps60
    go_wp2
    go_ret
    exact ⟨cret_bool (by simp; try omega), rfl⟩
set_option maxHeartbeats 400000 in
theorem free_any (x r : Nat) (hx : x < 65536) (h0 : 1 ≤ r) (hr : x + r ≤ 65536) (w : World) (ht : DbTab w) :
    Calls Tryd.prog 75 #[.int .u16 x, .int .u32 r] w fun e w' => e = .returned (.int .i64 (fr x r)) ∧ w = w' := by
  have hL := fun w => Tryd.bits_Len32 (r : Int) w (by omega) (by omega)
  have hT := fun w ht => tz_any x hx w ht
  obtain ⟨-, -, -, -, h1⟩ := fr_spec x r hx h0 hr
  rw [Int.toNat_natCast] at hL
  have hle : Lib.bitLen r ≤ 64 := Lib.bitLen_le r 64 (Nat.le_refl _) (by omega)
  have ht16 : tz x ≤ 16 := tzA_le 16 x
  unfold fr
  generalize Lib.bitLen r = n at *
  generalize tz x = z at *
  have HT := Lib.hid ht
  have HTz := Lib.hid hT
  have HL := Lib.hid hL
  clear ht hT hL
  by_cases c : z < n - 1
  · rw [Nat.min_eq_left (by omega)]
    have c' : (z : Int) < (n : Int) - 1 := by omega
    go_enter Tryd.func75, Tryd.ntmps75
    go_wp2_with fail
    refine (HTz.out _ HT.out).mono ?_
    rintro e w' ⟨rfl, rfl⟩
    go_wp2_with fail
    refine (HL.out _).mono ?_
    rintro e w' ⟨rfl, rfl⟩
    go_wp2
    all_goals
      go_ret
      exact ⟨cret_int (by omega), rfl⟩
  · rw [Nat.min_eq_right (by omega)]
    have c' : (n : Int) - 1 ≤ (z : Int) := by omega
    have c2 : (n : Int) - 1 = ((n - 1 : Nat) : Int) := by omega
    have C2 := Lib.hid c2
    clear c2
    go_enter Tryd.func75, Tryd.ntmps75
    go_wp2_with fail
    refine (HTz.out _ HT.out).mono ?_
    rintro e w' ⟨rfl, rfl⟩
    go_wp2_with fail
    refine (HL.out _).mono ?_
    rintro e w' ⟨rfl, rfl⟩
    go_wp2
    all_goals
      go_ret
      exact ⟨cret_int (by have := C2.out; omega), rfl⟩
end Go.Proofs.YtlmeagnegakifaaDoor
