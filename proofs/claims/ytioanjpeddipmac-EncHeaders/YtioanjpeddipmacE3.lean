/- Cube of no bits. -/
import Derived.Test.YtioanjpeddipmacE2
namespace Go.Proofs.Ytioanjpeddipmac
open Go.RowKit
set_option linter.unusedVariables false

set_option maxRecDepth 100000 in
set_option maxHeartbeats 2000000 in
theorem cubeJ_none (a : AL) (most : Nat) (ns : List Nd) (w : World) (h : Ar w a most ns) (hw : WF ns) :
    Calls Try.prog 31 #[.pointer (some ⟨a.p, 0, none⟩), .slice none 0 0] w (Ans most (some 1, ns) w a) := by
  have HH : Hid (∀ W, Below w.heap.size w W → W.cell? ⟨w.heap.size, 0, none⟩ = some (.pointer (some ⟨a.p, 0, none⟩)) → W.cell? ⟨w.heap.size + 1, 0, none⟩ = some (.slice none 0 0) → Calls Try.prog 43 #[.pointer (some ⟨a.p, 0, none⟩), .func (.func 53) #[] #[.pointer (some ⟨w.heap.size, 0, none⟩), .pointer (some ⟨w.heap.size + 1, 0, none⟩)]] W (Ans most (some 1, ns) w a)) := fun W hB c0 c1 => by
    have hA := h.on hB
    have C := whole_core most ns ns (some 1) 53 _ W a hA hw hw (Ext.refl _) Try.call53 (cubeL_any most (some 1, ns) W a _ _ _ c0 c1 (Lib.hid (cube_none a most ns W hA)))
    exact C.mono fun _ _ q => ans_of (of_ans hB q)
  unfold Ans at HH ⊢
  clear h hw
  have hmf : ∀ (fn : Fn) (first cap : Array Value) (w : World), (Instr.makeFunc fn first cap).run Try.prog w = .ok (.func fn first cap) w := fun _ _ _ _ => rfl
  go_enter Try.func31, Try.ntmps31
  go_upto_region 1 with fail
  refine at_code (S := fun W => Blk W w.heap.size [.pointer (some ⟨a.p, 0, none⟩)] ∧ Blk W (w.heap.size + 1) [.slice none 0 0] ∧ Below w.heap.size w W) ⟨?_, ?_, bel_al (bel_al (Below.refl _ _) _) _⟩ (fun W0 hW => ?_)
  · exact (Blk.new w _ [.pointer (some ⟨a.p, 0, none⟩)]).on (bel_al (Below.refl _ _) _)
  · have k := Blk.new (w.alloc (.cells #[.pointer (some ⟨a.p, 0, none⟩)] 30)) 79 [.slice none 0 0]
    rw [World.size_alloc] at k
    exact k
  obtain ⟨hp, hs, hb⟩ := hW
  have B0 := Lib.hid hb
  have p_0 := hp.1 0 _ rfl
  have s_0 := hs.1 0 _ rfl
  clear hp hs hb
  go_wp2_with fail
  go_loopw [12] (fun iv wr => iv = .int .i64 0 ∧ W0 = wr) (fun _ _ => 0)
  case atStart => exact ⟨rfl, rfl⟩
  case round =>
    obtain ⟨rfl, rfl⟩ := hrel
    have CC := Lib.hid (HH.out W0 B0.out p_0 s_0)
    go_wp2_with fail
    refine CC.out.mono ?_
    rintro e w3 ⟨rfl, hP⟩
    have HP := Lib.hid hP
    clear hP
    go_wp2
    go_ret2
    exact ⟨rfl, HP.out⟩
theorem sCubeNone {Z : Nat → Prop} {p most : Nat} {W : World} {ns : List Nd} (h : Sta Z p W most ns) : Calls Try.prog 31 #[.pointer (some ⟨p, 0, none⟩), .slice none 0 0] W (Got2 Z p most (some 1, ns) W) := by
  obtain ⟨a, rfl, h2, h3, h4, h5⟩ := h
  exact (cubeJ_none a most ns W h2 h3).mono fun _ _ => got2_of h4 h5 h3
end Go.Proofs.Ytioanjpeddipmac
