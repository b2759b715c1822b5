/- The document's Digits. -/
import Derived.Test.YtlmeagnegakifaaDoorHC
namespace Go.Proofs.YtlmeagnegakifaaDoor
open Go.RowKit
set_option linter.unusedVariables false

set_option maxHeartbeats 1000000 in
theorem rdig_any (N : Nat) (hN : N < 65536) (w : World) :
    Calls Tryd.prog 51 #[.int .i64 N] w fun e w' => e = .returned (.string ⟨(Lib.decDigits N).toArray⟩) ∧ Below w.heap.size w w' := by
  obtain ⟨t, ht⟩ : ∃ t : ByteArray, (⟨(Lib.decDigits N).toArray⟩ : ByteArray) = t := ⟨_, rfl⟩
  rw [ht]
  have HTt := Lib.hid ht
  clear ht
  go_enter Tryd.func51, Tryd.ntmps51
  go_wp2
  go_loopw [0, 3] (fun kv sv wr => ∃ (k : Nat) (l : List UInt8), sv = .string ⟨l.toArray⟩ ∧ kv = .int .i64 k ∧ k ≤ N ∧ Lib.decDigits k ++ l = Lib.decDigits N ∧ Below w.heap.size w wr) (fun kv _ _ => (intOf kv).toNat)
  case atStart => exact ⟨N, [], rfl, rfl, Nat.le_refl _, List.append_nil _, Below.refl _ _⟩
  case round =>
    obtain ⟨k, l, rfl, rfl, hk, hl, hb⟩ := hrel
    have hll : l.length ≤ 65536 := by
      have h1 := congrArg List.length hl
      have h2 := dd_len N
      rw [List.length_append] at h1
      omega
    have HL := Lib.hid hl
    have HB := Lib.hid hb
    clear hl hb
    obtain ⟨d, hd⟩ : ∃ d, k % 10 = d := ⟨_, rfl⟩
    obtain ⟨q, hq⟩ : ∃ q, k / 10 = q := ⟨_, rfl⟩
    have hd9 : d ≤ 9 := by omega
    have hr : (k : Int) % 10 = (d : Int) := by omega
    have hq' : (k : Int) / 10 = (q : Int) := by omega
    have hcv := fun wx => conv_one d hd9 wx
    have hu : UInt8.ofNat (48 + d) = 48 + UInt8.ofNat d := by rw [UInt8.ofNat_add]; rfl
    have hap := app_data [48 + UInt8.ofNat d] l
    by_cases c : k < 10
    · have hkd : k = d := by omega
      have hts : (⟨([48 + UInt8.ofNat d] ++ l).toArray⟩ : ByteArray) = t := by
        have h1 := HL.out
        rw [dd_small c, hkd, hu] at h1
        rw [← HTt.out, h1]
      have hap' : (⟨#[48 + UInt8.ofNat d]⟩ : ByteArray) ++ (⟨l.toArray⟩ : ByteArray) = t := hap.trans hts
      have hq0 : q = 0 := by omega
      subst hq0
      clear hap hts HTt hu hkd hq
      go_wp2
      go_ret
      exact ⟨rfl, below_al HB.out _⟩
    · have HE : Hid (Lib.decDigits q ++ ([48 + UInt8.ofNat d] ++ l) = Lib.decDigits N) := by
        have h1 := HL.out
        rw [dd_step c, hd, hq, hu, List.append_assoc] at h1
        exact h1
      have HQ := Lib.hid hq
      have hq1 : ((q : Int) == 0) = false := by simp; omega
      clear HTt hu hq
      go_wp2_with fail
      refine ⟨⟨q, [48 + UInt8.ofNat d] ++ l, by first | rw [hap] | rfl, rfl, by have := HQ.out; omega, HE.out, below_al HB.out _⟩, ?_⟩
      have := HQ.out
      simp [intOf]; omega
end Go.Proofs.YtlmeagnegakifaaDoor
