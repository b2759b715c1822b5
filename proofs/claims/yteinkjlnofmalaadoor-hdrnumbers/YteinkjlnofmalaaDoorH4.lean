/- HdrNumbers' call answers true for any two numbers. -/
import Derived.Test.YteinkjlnofmalaaDoorH2
import Derived.Test.YteinkjlnofmalaaDoorH3
namespace Go.Proofs.YteinkjlnofmalaaDoor
open Go.RowKit
set_option linter.unusedVariables false

/-- 'string([]byte{byte(48 + d)})' of a new block. -/
theorem conv_one (d : Nat) (hd : d ≤ 9) (w : World) :
    (convert 52 9 (.slice (some ⟨w.heap.size, 0, none⟩) 1 1)).run Tryd.prog (w.alloc (.cells #[.int .u8 (48 + (d : Int))] 5)) = .ok (.string ⟨#[UInt8.ofNat (48 + d)]⟩) (w.alloc (.cells #[.int .u8 (48 + (d : Int))] 5)) := by
  have h := run_convert_bytes_back (P := Tryd.prog) (w.alloc (.cells #[.int .u8 (48 + (d : Int))] 5)) 52 9 5 ⟨w.heap.size, 0, none⟩ 1 [UInt8.ofNat (48 + d)] Tryd.underlying52 Tryd.underlying5 Tryd.underlying9 (fun j hj => by
    simp at hj
    subst hj
    simp [Addr.add, go_sem]
    omega)
  exact h
theorem app_data (a b : List UInt8) : ((⟨a.toArray⟩ : ByteArray) ++ (⟨b.toArray⟩ : ByteArray)) = ⟨(a ++ b).toArray⟩ := by
  apply ByteArray.ext
  simp
set_option maxHeartbeats 2000000 in
theorem numbers_core (n most v x : Int) (N : Nat) (t t1 t2 t3 : ByteArray) (hn : n = N) (hN : N < 65536) (h0 : 0 ≤ most) (hm : most < 65536) (ht : t = ⟨(Lib.decDigits N).toArray⟩) (htl : t.size ≤ 65536)
    (e1 : (⟨#[48]⟩ : ByteArray) ++ t = t1) (e2 : t ++ (⟨#[32]⟩ : ByteArray) = t2) (e3 : (⟨#[45]⟩ : ByteArray) ++ t = t3)
    (c1 : Hid (∀ w, Calls Tryd.prog 22 #[.string t, .int .i64 most] w fun e w' => e = .returned (.tuple #[.int .i64 v, .int .i64 x]) ∧ Below w.heap.size w w'))
    (c2 : Hid (∀ w, Calls Tryd.prog 22 #[.string t1, .int .i64 1048576] w fun e w' => e = .returned (.tuple #[.int .i64 0, .int .i64 6]) ∧ Below w.heap.size w w'))
    (c3 : Hid (∀ w, Calls Tryd.prog 22 #[.string t2, .int .i64 1048576] w fun e w' => e = .returned (.tuple #[.int .i64 0, .int .i64 6]) ∧ Below w.heap.size w w'))
    (c4 : Hid (∀ w, Calls Tryd.prog 22 #[.string t3, .int .i64 1048576] w fun e w' => e = .returned (.tuple #[.int .i64 0, .int .i64 6]) ∧ Below w.heap.size w w'))
    (hv : Hid ((most < n → v = 0 ∧ x = 5) ∧ (n ≤ most → v = n ∧ x = 0)))
    (w : World) :
    Calls Tryd.prog 7 #[.int .u16 n, .int .u16 most] w fun e w' => e = .returned (.bool true) ∧ Below w.heap.size w w' := by
  subst hn
  have HTt := Lib.hid ht
  have E1 := Lib.hid e1
  have E2 := Lib.hid e2
  have E3 := Lib.hid e3
  clear ht e1 e2 e3
  go_enter Tryd.func7, Tryd.ntmps7
  go_wp2
  go_loopw [5, 6] (fun sv kv wr => ∃ (k : Nat) (l : List UInt8), sv = .string ⟨l.toArray⟩ ∧ kv = .int .i64 k ∧ k ≤ N ∧ Lib.decDigits k ++ l = Lib.decDigits N ∧ Below w.heap.size w wr) (fun _ kv _ => (intOf kv).toNat)
  case atStart => exact ⟨N, [], rfl, rfl, Nat.le_refl _, List.append_nil _, Below.refl _ _⟩
  case round =>
    obtain ⟨k, l, rfl, rfl, hk, hl, hb⟩ := hrel
    have hll : l.length ≤ 65536 := by
      have h1 := congrArg List.length hl
      have h2 := dd_len N
      rw [List.length_append] at h1
      omega
    have HL := Lib.hid hl
    have HB := Lib.hid hb
    clear hl hb
    obtain ⟨d, hd⟩ : ∃ d, k % 10 = d := ⟨_, rfl⟩
    have hd9 : d ≤ 9 := by omega
    have hr : (k : Int) % 10 = (d : Int) := by omega
    have hcv := fun wx => conv_one d hd9 wx
    have hu : UInt8.ofNat (48 + d) = 48 + UInt8.ofNat d := by rw [UInt8.ofNat_add]; rfl
    have hap := app_data [48 + UInt8.ofNat d] l
    by_cases c : k < 10
    · have hkd : k = d := by omega
      have hts : (⟨([48 + UInt8.ofNat d] ++ l).toArray⟩ : ByteArray) = t := by
        have h1 := HL.out
        rw [dd_small c, hkd, hu] at h1
        rw [HTt.out, h1]
      have hap' : (⟨#[48 + UInt8.ofNat d]⟩ : ByteArray) ++ (⟨l.toArray⟩ : ByteArray) = t := hap.trans hts
      clear hap hts HTt hu hkd
      go_wp2_with fail
      refine (c1.out _).mono ?_
      rintro e w2 ⟨rfl, b2⟩
      have e1 := E1.out
      go_wp2_with fail
      refine (c2.out _).mono ?_
      rintro e w3 ⟨rfl, b3⟩
      clear e1
      have e2 := E2.out
      go_wp2_with fail
      refine (c3.out _).mono ?_
      rintro e w4 ⟨rfl, b4⟩
      clear e2
      have e3 := E3.out
      go_wp2_with fail
      refine (c4.out _).mono ?_
      rintro e w5 ⟨rfl, b5⟩
      clear e3
      have B5 := Lib.hid (below_on (below_on (below_on (below_on (below_al HB.out _) b2) b3) b4) b5)
      clear b2 b3 b4 b5
      by_cases cn : most < (N : Int)
      · obtain ⟨rfl, rfl⟩ := hv.out.1 cn
        go_wp2_with fail
        refine (awake_any _).mono ?_
        rintro e w6 ⟨rfl, b6⟩
        go_wp2
        go_ret
        exact ⟨rfl, below_on B5.out b6⟩
      · obtain ⟨rfl, rfl⟩ := hv.out.2 (by omega)
        go_wp2_with fail
        refine (awake_any _).mono ?_
        rintro e w6 ⟨rfl, b6⟩
        go_wp2
        go_ret
        exact ⟨rfl, below_on B5.out b6⟩
    · have HQ : Hid ((k : Int) / 10 = ((k / 10 : Nat) : Int)) := by show _ = _; omega
      have HE : Hid (Lib.decDigits (k / 10) ++ ([48 + UInt8.ofNat d] ++ l) = Lib.decDigits N) := by
        have h1 := HL.out
        rw [dd_step c, hd, hu, List.append_assoc] at h1
        exact h1
      clear HTt hu
      go_wp2_with fail
      refine ⟨⟨k / 10, [48 + UInt8.ofNat d] ++ l, by first | rw [hap] | rfl, by rw [HQ.out], by omega, HE.out, below_al HB.out _⟩, ?_⟩
      simp [intOf]; omega
theorem numbers_any (n most : Nat) (hn : n < 65536) (hm : most < 65536) (w : World) :
    Calls Tryd.prog 7 #[.int .u16 n, .int .u16 most] w fun e w' => e = .returned (.bool true) ∧ Below w.heap.size w w' := by
  have hl := dd_len n
  have s1 : ((⟨#[48]⟩ : ByteArray) ++ (⟨(Lib.decDigits n).toArray⟩ : ByteArray)) = ⟨(48 :: Lib.decDigits n).toArray⟩ := app_data [48] _
  have s2 : ((⟨(Lib.decDigits n).toArray⟩ : ByteArray) ++ (⟨#[32]⟩ : ByteArray)) = ⟨(Lib.decDigits n ++ [32]).toArray⟩ := app_data _ [32]
  have s3 : ((⟨#[45]⟩ : ByteArray) ++ (⟨(Lib.decDigits n).toArray⟩ : ByteArray)) = ⟨(45 :: Lib.decDigits n).toArray⟩ := app_data [45] _
  refine numbers_core n most (nz most (Lib.decDigits n)).1 (nz most (Lib.decDigits n)).2 n ⟨(Lib.decDigits n).toArray⟩ _ _ _ rfl hn (by omega) (by omega) rfl ?_ s1 s2 s3 ?_ ?_ ?_ ?_ ?_ w
  · show (Lib.decDigits n).toArray.size ≤ 65536
    rw [List.size_toArray]; omega
  · exact fun w => number_any _ most (by omega) (by show (Lib.decDigits n).toArray.size ≤ _; rw [List.size_toArray]; unfold maxLen; omega) w
  · intro w
    have h := number_any ⟨(48 :: Lib.decDigits n).toArray⟩ 1048576 (by omega) (by show (48 :: Lib.decDigits n).toArray.size ≤ _; rw [List.size_toArray, List.length_cons]; unfold maxLen; omega) w
    rw [show nz 1048576 (⟨(48 :: Lib.decDigits n).toArray⟩ : ByteArray).data.toList = (0, 6) from nz_nought _ _] at h
    exact h
  · intro w
    have h := number_any ⟨(Lib.decDigits n ++ [32]).toArray⟩ 1048576 (by omega) (by show (Lib.decDigits n ++ [32]).toArray.size ≤ _; rw [List.size_toArray, List.length_append]; unfold maxLen; simp; omega) w
    have e : nz 1048576 (ByteArray.mk (List.toArray (Lib.decDigits n ++ [32]))).data.toList = (0, 6) := nz_behind _ _ (by omega)
    rw [e] at h
    exact h
  · intro w
    have h := number_any ⟨(45 :: Lib.decDigits n).toArray⟩ 1048576 (by omega) (by show (45 :: Lib.decDigits n).toArray.size ≤ _; rw [List.size_toArray, List.length_cons]; unfold maxLen; omega) w
    rw [show nz 1048576 (⟨(45 :: Lib.decDigits n).toArray⟩ : ByteArray).data.toList = (0, 6) from nz_minus _ _] at h
    exact h
  · refine ⟨fun h => ?_, fun h => ?_⟩
    · rw [nz_dec_big most n (by omega)]; exact ⟨rfl, rfl⟩
    · rw [nz_dec most n (by omega)]; exact ⟨rfl, rfl⟩
end Go.Proofs.YteinkjlnofmalaaDoor
