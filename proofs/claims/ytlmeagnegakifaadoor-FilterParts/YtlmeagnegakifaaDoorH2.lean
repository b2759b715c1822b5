/- Addresses as texts. -/
import Derived.Test.YtlmeagnegakifaaDoorH1
import Derived.Test.YtlmeagnegakifaaDoorShelf
namespace Go.Proofs.YtlmeagnegakifaaDoor
open Go.RowKit
set_option linter.unusedVariables false

set_option maxHeartbeats 400000 in
theorem part_core (a v : Int) (l : Nat) (hl : l < 32) (t : ByteArray) (P : World → Prop) (hv : wrap64 (bits .and .u32 (a / 2 ^ l) 255) = v)
    (hI : ∀ w, P w → Calls Tryd.prog 45 #[.int .i64 v] w fun e w' => e = .returned (.string t) ∧ Below w.heap.size w w') (w : World) (hw : P w) :
    Calls Tryd.prog 49 #[.int .u32 a, .int .i64 l] w fun e w' => e = .returned (.string t) ∧ Below w.heap.size w w' := by
  go_enter Tryd.func49, Tryd.ntmps49
  go_wp2_with fail
  refine (hI _ hw).mono ?_
  rintro e w' ⟨rfl, hb⟩
  go_wp2
  go_ret
  exact ⟨rfl, hb⟩
set_option maxHeartbeats 400000 in
theorem addr_core (a : Int) (t1 t2 t3 t4 t : ByteArray) (P : World → Prop) (hP : ∀ W w, P W → Below W.heap.size W w → P w)
    (h1 : ∀ w, P w → Calls Tryd.prog 49 #[.int .u32 a, .int .i64 24] w fun e w' => e = .returned (.string t1) ∧ Below w.heap.size w w')
    (h2 : ∀ w, P w → Calls Tryd.prog 49 #[.int .u32 a, .int .i64 16] w fun e w' => e = .returned (.string t2) ∧ Below w.heap.size w w')
    (h3 : ∀ w, P w → Calls Tryd.prog 49 #[.int .u32 a, .int .i64 8] w fun e w' => e = .returned (.string t3) ∧ Below w.heap.size w w')
    (h4 : ∀ w, P w → Calls Tryd.prog 49 #[.int .u32 a, .int .i64 0] w fun e w' => e = .returned (.string t4) ∧ Below w.heap.size w w')
    (hJ : ∀ w0 : World, Calls Tryd.prog 46 #[.slice (some ⟨w0.heap.size, 0, none⟩) 4 4, .string ⟨#[46]⟩] (w0.alloc (.cells #[.string t1, .string t2, .string t3, .string t4] 9)) fun e w' => e = .returned (.string t) ∧ Below (w0.alloc (.cells #[.string t1, .string t2, .string t3, .string t4] 9)).heap.size (w0.alloc (.cells #[.string t1, .string t2, .string t3, .string t4] 9)) w')
    (w : World) (hw : P w) :
    Calls Tryd.prog 14 #[.int .u32 a] w fun e w' => e = .returned (.string t) ∧ Below w.heap.size w w' := by
  go_enter Tryd.func14, Tryd.ntmps14
  go_wp2_with fail
  refine (h1 _ hw).mono ?_
  rintro e w1 ⟨rfl, b1⟩
  have p1 := hP _ _ hw b1
  go_wp2_with fail
  refine (h2 _ p1).mono ?_
  rintro e w2 ⟨rfl, b2⟩
  have p2 := hP _ _ p1 b2
  go_wp2_with fail
  refine (h3 _ p2).mono ?_
  rintro e w3 ⟨rfl, b3⟩
  have p3 := hP _ _ p2 b3
  go_wp2_with fail
  refine (h4 _ p3).mono ?_
  rintro e w4 ⟨rfl, b4⟩
  go_wp2_with fail
  refine (hJ w4).mono ?_
  rintro e w5 ⟨rfl, b5⟩
  go_wp2
  go_ret
  exact ⟨rfl, below_on (below_al (below_on (below_on (below_on b1 b2) b3) b4) _) b5⟩
/-- Four texts with dots between. -/
def dots (t1 t2 t3 t4 : ByteArray) : ByteArray := ⟨(Lib.join ([t1, t2, t3, t4].map (·.data.toList)) [46]).toArray⟩
theorem join4 (t1 t2 t3 t4 : ByteArray) (hl : (Lib.join ([t1, t2, t3, t4].map (·.data.toList)) [46]).length ≤ 140737488355328) (w0 : World) :
    Calls Tryd.prog 46 #[.slice (some ⟨w0.heap.size, 0, none⟩) 4 4, .string ⟨#[46]⟩] (w0.alloc (.cells #[.string t1, .string t2, .string t3, .string t4] 9)) fun e w' => e = .returned (.string (dots t1 t2 t3 t4)) ∧ Below (w0.alloc (.cells #[.string t1, .string t2, .string t3, .string t4] 9)).heap.size (w0.alloc (.cells #[.string t1, .string t2, .string t3, .string t4] 9)) w' := by
  refine Tryd.strings_Join w0.heap.size 0 4 [t1, t2, t3, t4] ⟨#[46]⟩ _ ?_ (by simp) (by simp) (by simp) hl
  intro j x hj
  match j, hj with
  | 0, hj => simp at hj; subst hj; simp [go_sem]
  | 1, hj => simp at hj; subst hj; simp [go_sem]
  | 2, hj => simp at hj; subst hj; simp [go_sem]
  | 3, hj => simp at hj; subst hj; simp [go_sem]
theorem itoa_small (i : Nat) (hi : i < 100) (w : World) (hw : True) :
    Calls Tryd.prog 45 #[.int .i64 i] w fun e w' => e = .returned (.string ⟨(Lib.decDigits i).toArray⟩) ∧ Below w.heap.size w w' := by
  refine (Tryd.strconv_Itoa_small i hi w).mono ?_
  rintro e w' ⟨rfl, rfl⟩
  exact ⟨rfl, Below.refl _ _⟩
theorem ten_eq : Lib.decDigits 10 = [49, 48] := by rw [Lib.decDigits_two (by omega) (by omega)]; rfl
theorem nil_eq : Lib.decDigits 0 = [48] := by rw [Lib.decDigits_one (by omega)]; rfl
theorem one_eq : Lib.decDigits 1 = [49] := by rw [Lib.decDigits_one (by omega)]; rfl
theorem itoa_10 (w : World) (hw : True) : Calls Tryd.prog 45 #[.int .i64 10] w fun e w' => e = .returned (.string ⟨#[49, 48]⟩) ∧ Below w.heap.size w w' := by
  have h := itoa_small 10 (by omega) w trivial; rw [ten_eq] at h; exact h
theorem itoa_0 (w : World) (hw : True) : Calls Tryd.prog 45 #[.int .i64 0] w fun e w' => e = .returned (.string ⟨#[48]⟩) ∧ Below w.heap.size w w' := by
  have h := itoa_small 0 (by omega) w trivial; rw [nil_eq] at h; exact h
theorem itoa_1 (w : World) (hw : True) : Calls Tryd.prog 45 #[.int .i64 1] w fun e w' => e = .returned (.string ⟨#[49]⟩) ∧ Below w.heap.size w w' := by
  have h := itoa_small 1 (by omega) w trivial; rw [one_eq] at h; exact h
/-- The document's example: 10.0.0.1. -/
theorem addr_ten (w : World) : Calls Tryd.prog 14 #[.int .u32 167772161] w fun e w' => e = .returned (.string ⟨#[49, 48, 46, 48, 46, 48, 46, 49]⟩) ∧ Below w.heap.size w w' := by
  have h := addr_core 167772161 ⟨#[49, 48]⟩ ⟨#[48]⟩ ⟨#[48]⟩ ⟨#[49]⟩ (dots ⟨#[49, 48]⟩ ⟨#[48]⟩ ⟨#[48]⟩ ⟨#[49]⟩) (fun _ => True) (fun _ _ _ _ => trivial)
    (part_core _ 10 24 (by omega) _ (fun _ => True) (by decide +kernel) itoa_10)
    (part_core _ 0 16 (by omega) _ (fun _ => True) (by decide +kernel) itoa_0)
    (part_core _ 0 8 (by omega) _ (fun _ => True) (by decide +kernel) itoa_0)
    (part_core _ 1 0 (by omega) _ (fun _ => True) (by decide +kernel) itoa_1)
    (join4 _ _ _ _ (by decide)) w trivial
  rw [show dots ⟨#[49, 48]⟩ ⟨#[48]⟩ ⟨#[48]⟩ ⟨#[49]⟩ = (⟨#[49, 48, 46, 48, 46, 48, 46, 49]⟩ : ByteArray) from by decide] at h
  exact h
theorem bit_ten (w : World) : Calls Tryd.prog 50 #[hv 167772161 0 0 0 0, .int .i64 4] w fun e w' => e = .returned (.bool true) ∧ Below w.heap.size w w' := by
  have h := bit_any 167772161 0 0 0 0 4 ⟨by omega, by omega, by omega, by omega, by omega⟩ w
  rw [show bt 167772161 0 0 0 0 4 = true from by decide] at h
  exact h
set_option maxHeartbeats 400000 in
theorem awake_any (w : World) : Calls Tryd.prog 15 #[] w fun e w' => e = .returned (.bool true) ∧ Below w.heap.size w w' := by
  go_enter Tryd.func15, Tryd.ntmps15
  go_wp2_with fail
  refine (addr_ten _).mono ?_
  rintro e w1 ⟨rfl, b1⟩
  go_wp2_with fail
  refine (bit_ten _).mono ?_
  rintro e w2 ⟨rfl, b2⟩
  go_wp2
  go_ret
  exact ⟨rfl, below_on b1 b2⟩
end Go.Proofs.YtlmeagnegakifaaDoor
