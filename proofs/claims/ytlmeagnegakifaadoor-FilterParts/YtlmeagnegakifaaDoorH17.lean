/- Texts: what Itoa, Addr and the document's Addr answer, wherever the library's table lies in the world. -/
import Derived.Test.YtlmeagnegakifaaDoorH2
import Derived.Test.YtlmeagnegakifaaDoorH10
import Derived.Lib.ItoaMem
import Derived.Lib.AppendIntMem
import Derived.Lib.SmallJoins
namespace Go.Proofs.YtlmeagnegakifaaDoor
open Go.RowKit
set_option linter.unusedVariables false

theorem gPow : Tryd.prog.globalNamed "internal/strconv.uint64pow10" = some 2 := by kernel_rfl
/-- What reading a text wants of a world: how long a text is searched byte by byte. -/
def Mxl (w : World) : Prop := ∃ m, w.cell? ⟨0, 0, none⟩ = some (.int .i64 m)
theorem Mxl.on {w w' : World} (h : Mxl w) (hb : Below w.heap.size w w') : Mxl w' := by
  obtain ⟨m, hm⟩ := h
  refine ⟨m, (hb.cell (p := ⟨0, 0, none⟩) ?_).trans hm⟩
  rcases Nat.lt_or_ge 0 w.heap.size with h1 | h1
  · exact h1
  · simp [World.cell?, Array.getElem?_eq_none h1] at hm
/-- What texts want of a world: the library's table of powers, too. -/
structure Txt (w : World) : Prop where
  tab : Lib.TabIs Tryd.prog w "internal/strconv.uint64pow10" .u64 Lib.pow10Tab
  max : Mxl w
theorem Txt.on {w w' : World} (h : Txt w) (hb : Below w.heap.size w w') : Txt w' := ⟨Go.Joins.tab_stays gPow h.tab hb (Nat.le_refl _), h.max.on hb⟩
theorem Txt.al {w : World} (h : Txt w) (o : Obj) : Txt (w.alloc o) := h.on (below_al (Below.refl _ _) o)
theorem Txt.drew {w : World} (h : Txt w) : Txt w.drew := h.on (Below.refl _ _).drew
/-- A number's digits as a text. -/
def dd (n : Nat) : ByteArray := ⟨(Lib.decDigits n).toArray⟩
theorem itoa_any (n : Nat) (hn : n ≤ 9223372036854775807) (w : World) (h : Txt w) :
    Calls Tryd.prog 45 #[.int .i64 n] w fun e w' => e = .returned (.string (dd n)) ∧ Below w.heap.size w w' := by
  refine (Tryd.strconv_Itoa n (by omega) (by omega) w h.tab).mono ?_
  rintro e w' ⟨rfl, k, os, rfl⟩
  rw [Lib.itoa_nonneg]
  exact ⟨rfl, Lib.below_grow _ _ (Nat.le_refl _) _ _⟩
theorem dd_len10 : ∀ n, n < 65536 → (Lib.decDigits n).length ≤ 5 := by
  intro n hn
  have st : ∀ m k, m < 10 ^ (k + 1) → (Lib.decDigits m).length ≤ k + 1 := by
    intro m k
    induction k generalizing m with
    | zero => intro h; rw [dd_small (by simpa using h)]; simp
    | succ k ih =>
      intro h
      by_cases c : m < 10
      · rw [dd_small c]; simp
      · rw [dd_step c, List.length_append]
        have := ih (m / 10) (by rw [Nat.pow_succ] at h; omega)
        simp; omega
  exact st n 4 (by omega)
theorem dd_size (n : Nat) (hn : n < 65536) : (dd n).size ≤ 5 := by
  have := dd_len10 n hn
  unfold dd
  simpa [ByteArray.size] using this
/-- An address as a text. -/
def addrT (a : Nat) : ByteArray := dots (dd (a / 16777216)) (dd (a / 65536 % 256)) (dd (a / 256 % 256)) (dd (a % 256))
theorem and255 (x : Nat) (h : x < 4294967296) : wrap64 (bits .and .u32 (x : Int) 255) = ((x % 256 : Nat) : Int) := by
  have e : bits .and .u32 (x : Int) ((255 : Nat) : Int) = ((x &&& 255 : Nat) : Int) := by
    have hf : x &&& 255 < 4294967296 := Nat.lt_of_le_of_lt Nat.and_le_left h
    unfold bits
    have e : (BitVec.ofInt 32 (x : Int) &&& BitVec.ofInt 32 ((255 : Nat) : Int)).toNat = x &&& 255 := by
      rw [BitVec.ofInt_natCast, BitVec.ofInt_natCast, BitVec.toNat_and, BitVec.toNat_ofNat, BitVec.toNat_ofNat, Nat.mod_eq_of_lt h, Nat.mod_eq_of_lt (by omega)]
    show IntKind.u32.wrap (((BitVec.ofInt 32 (x : Int) &&& BitVec.ofInt 32 ((255 : Nat) : Int)).toNat : Nat) : Int) = _
    rw [e, IntKind.wrap_u32]; omega
  have e2 : x &&& 255 = x % 256 := by rw [show (255 : Nat) = 2 ^ 8 - 1 from rfl, Nat.and_two_pow_sub_one_eq_mod]
  rw [show (255 : Int) = ((255 : Nat) : Int) from rfl, e, e2]
  unfold wrap64
  omega
theorem part_any (a l : Nat) (ha : a < 4294967296) (hl : l < 32) (n : Nat) (hn : a / 2 ^ l % 256 = n) (w : World) (h : Txt w) :
    Calls Tryd.prog 49 #[.int .u32 a, .int .i64 l] w fun e w' => e = .returned (.string (dd n)) ∧ Below w.heap.size w w' := by
  refine part_core a n l hl (dd n) Txt ?_ (fun w h => itoa_any n (by omega) w h) w h
  have e : (a : Int) / 2 ^ l = ((a / 2 ^ l : Nat) : Int) := by rw [Int.natCast_ediv, Int.natCast_pow]; rfl
  rw [e, and255 _ (Nat.lt_of_le_of_lt (Nat.div_le_self _ _) ha), hn]
theorem join_dots_len (t1 t2 t3 t4 : ByteArray) : (Lib.join ([t1, t2, t3, t4].map (·.data.toList)) [46]).length = t1.size + t2.size + t3.size + t4.size + 3 := by
  have e : ∀ t : ByteArray, t.data.toList.length = t.size := fun t => by rw [Array.length_toList]; rfl
  show (t1.data.toList ++ ([46] ++ (t2.data.toList ++ ([46] ++ (t3.data.toList ++ ([46] ++ (t4.data.toList ++ []))))))).length = _
  simp only [List.length_append, List.length_cons, List.length_nil, e]
  omega
theorem addr_any (a : Nat) (ha : a < 4294967296) (w : World) (h : Txt w) :
    Calls Tryd.prog 14 #[.int .u32 a] w fun e w' => e = .returned (.string (addrT a)) ∧ Below w.heap.size w w' := by
  have s1 := dd_size (a / 16777216) (by omega)
  have s2 := dd_size (a / 65536 % 256) (by omega)
  have s3 := dd_size (a / 256 % 256) (by omega)
  have s4 := dd_size (a % 256) (by omega)
  exact addr_core a (dd (a / 16777216)) (dd (a / 65536 % 256)) (dd (a / 256 % 256)) (dd (a % 256)) _ Txt (fun _ _ h hb => h.on hb)
    (fun w h => part_any a 24 ha (by omega) _ (by rw [show (2 : Nat) ^ 24 = 16777216 from rfl]; omega) w h)
    (fun w h => part_any a 16 ha (by omega) _ (by rw [show (2 : Nat) ^ 16 = 65536 from rfl]) w h)
    (fun w h => part_any a 8 ha (by omega) _ (by rw [show (2 : Nat) ^ 8 = 256 from rfl]) w h)
    (fun w h => part_any a 0 ha (by omega) _ (by rw [Nat.pow_zero, Nat.div_one]) w h)
    (join4 _ _ _ _ (by rw [join_dots_len]; omega)) w h
set_option maxHeartbeats 1000000 in
theorem raddr_core (a n1 n2 n3 n4 : Int) (t1 t2 t3 t4 T : ByteArray) (s1 : t1.size ≤ 5) (s2 : t2.size ≤ 5) (s3 : t3.size ≤ 5) (s4 : t4.size ≤ 5)
    (e1 : a / 16777216 = n1) (e2 : a / 65536 % 256 = n2) (e3 : a / 256 % 256 = n3) (e4 : a % 256 = n4) (ha : 0 ≤ a) (ha' : a < 4294967296)
    (h1 : Hid (∀ w, Calls Tryd.prog 51 #[.int .i64 n1] w fun e w' => e = .returned (.string t1) ∧ Below w.heap.size w w'))
    (h2 : Hid (∀ w, Calls Tryd.prog 51 #[.int .i64 n2] w fun e w' => e = .returned (.string t2) ∧ Below w.heap.size w w'))
    (h3 : Hid (∀ w, Calls Tryd.prog 51 #[.int .i64 n3] w fun e w' => e = .returned (.string t3) ∧ Below w.heap.size w w'))
    (h4 : Hid (∀ w, Calls Tryd.prog 51 #[.int .i64 n4] w fun e w' => e = .returned (.string t4) ∧ Below w.heap.size w w'))
    (hT : Hid (t1 ++ ⟨#[46]⟩ ++ t2 ++ ⟨#[46]⟩ ++ t3 ++ ⟨#[46]⟩ ++ t4 = T)) (w : World) :
    Calls Tryd.prog 17 #[.int .u32 a] w fun e w' => e = .returned (.string T) ∧ Below w.heap.size w w' := by
  have b1 : 0 ≤ n1 := by omega
  have b1' : n1 < 256 := by omega
  have b2 : 0 ≤ n2 := by omega
  have b2' : n2 < 256 := by omega
  have b3 : 0 ≤ n3 := by omega
  have b3' : n3 < 256 := by omega
  have b4 : 0 ≤ n4 := by omega
  have b4' : n4 < 256 := by omega
  go_enter Tryd.func17, Tryd.ntmps17
  go_wp2_with fail
  refine (h1.out _).mono ?_
  rintro e w1 ⟨rfl, k1⟩
  have K1 := Lib.hid k1
  clear k1
  go_wp2_with fail
  refine (h2.out _).mono ?_
  rintro e w2 ⟨rfl, k2⟩
  have K2 := Lib.hid (below_on K1.out k2)
  clear k2 K1
  go_wp2_with fail
  refine (h3.out _).mono ?_
  rintro e w3 ⟨rfl, k3⟩
  have K3 := Lib.hid (below_on K2.out k3)
  clear k3 K2
  go_wp2_with fail
  refine (h4.out _).mono ?_
  rintro e w4 ⟨rfl, k4⟩
  have K4 := Lib.hid (below_on K3.out k4)
  clear k4 K3
  go_wp2
  go_ret
  exact ⟨by rw [← hT.out]; rfl, K4.out⟩
theorem dots_app (t1 t2 t3 t4 : ByteArray) : t1 ++ ⟨#[46]⟩ ++ t2 ++ ⟨#[46]⟩ ++ t3 ++ ⟨#[46]⟩ ++ t4 = dots t1 t2 t3 t4 := by
  apply ByteArray.ext
  apply Array.ext'
  simp [dots, Lib.join]
theorem raddr_any (a : Nat) (ha : a < 4294967296) (w : World) :
    Calls Tryd.prog 17 #[.int .u32 a] w fun e w' => e = .returned (.string (addrT a)) ∧ Below w.heap.size w w' :=
  raddr_core a (a / 16777216 : Nat) (a / 65536 % 256 : Nat) (a / 256 % 256 : Nat) (a % 256 : Nat) _ _ _ _ _ (dd_size _ (by omega)) (dd_size _ (by omega)) (dd_size _ (by omega)) (dd_size _ (by omega)) (by omega) (by omega) (by omega) (by omega) (by omega) (by omega)
    (fun w => rdig_any _ (by omega) w) (fun w => rdig_any _ (by omega) w) (fun w => rdig_any _ (by omega) w) (fun w => rdig_any _ (by omega) w) (dots_app _ _ _ _) w
end Go.Proofs.YtlmeagnegakifaaDoor
