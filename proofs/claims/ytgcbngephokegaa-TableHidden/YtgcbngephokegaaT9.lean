/- Get, Len, Drop of a table; Add of what is wrong, or there. -/
import Derived.Test.YtgcbngephokegaaT6
namespace Go.Proofs.Ytgcbngephokegaa
open Go.RowKit Go.Maps Go.MapKept Go.ChangeMaps Go.WideElems Go.Joins
set_option linter.unusedVariables false
set_option linter.unusedSimpArgs false

def dropI (R : List Ru) (id : Int) : List Ru := R.filter fun r => decide (r.id ≠ id)
theorem mem_dropI {R : List Ru} {id : Int} {r : Ru} : r ∈ dropI R id ↔ r ∈ R ∧ r.id ≠ id := by unfold dropI; rw [List.mem_filter]; simp
theorem rm_del {w : World} {b : Nat} {R : List Ru} (h : RMap w (some b) R) (id : Int) (hv : I64 id) (ty : TypeId) :
    ∃ w', (Builtin.delete_ #[106, 3] ty #[.map (some b), .int .i64 id]).run Try.prog w = .ok (.tuple #[]) w' ∧ RMap w' (some b) (dropI R id) ∧ Only b w w' :=
  mapV_del (m' := ruL (dropI R id)) keyedInt Try.underlying106 zK_inj h (key_z id hv) (fun p => by
    rw [mem_ruL, mem_ruL, mem_dropI]
    constructor
    · rintro ⟨⟨h1, h2⟩, h3⟩; exact ⟨⟨h1, h3⟩, by rw [h3]; exact h2⟩
    · rintro ⟨⟨h1, h3⟩, h2⟩; exact ⟨⟨h1, by rw [← h3]; exact h2⟩, h3⟩)
theorem TabP.len {R : List Ru} {E : List Ent} (h : TabP R E) (hn : E.Nodup) : E.length = R.length := by
  rw [← List.length_map (f := re)]
  refine nodup_len hn ?_ (fun y => ?_)
  · refine List.Pairwise.of_map (S := fun a b => a ≠ b) (f := Prod.snd) (fun a b h e => h (congrArg _ e)) ?_
    rw [List.map_map]
    exact h.n
  · rw [h.m, List.mem_map]
    exact ⟨fun ⟨r, h1, h2⟩ => ⟨r, h1, h2.symm⟩, fun ⟨r, h1, h2⟩ => ⟨r, h1, h2.symm⟩⟩
theorem TabP.less {R : List Ru} {E : List Ent} (h : TabP R E) {r : Ru} (hr : r ∈ R) : re r ∈ E ∧ TabP (dropI R r.id) (dropE E (re r)) := by
  refine ⟨(h.m _).2 ⟨r, hr, rfl⟩, fun y => ?_, ?_, fun s hs => h.r s (mem_dropI.1 hs).1⟩
  · rw [mem_dropE, h.m]
    constructor
    · rintro ⟨⟨s, hs, rfl⟩, hne⟩
      exact ⟨s, mem_dropI.2 ⟨hs, fun e => hne (by rw [id_inj h.n hs hr e])⟩, rfl⟩
    · rintro ⟨s, hs, rfl⟩
      obtain ⟨h1, h2⟩ := mem_dropI.1 hs
      exact ⟨⟨s, h1, rfl⟩, fun e => h2 (congrArg Prod.snd e)⟩
  · unfold dropI
    exact h.n.sublist (List.Sublist.map _ List.filter_sublist)
set_option maxRecDepth 100000 in
set_option maxHeartbeats 1000000 in
theorem get_core (W : World) (p : Nat) (m : Option Nat) (id : Int) (y : Ru) (b : Bool) (hp : W.cell? ⟨p, 0, none⟩ = some (.map m))
    (hl : ∀ w, Below W.heap.size W w → (Instr.lookup 106 (.map m) (.int .i64 id) true).run Try.prog w = .ok (.tuple #[rv y, .bool b]) w) :
    Calls Try.prog 29 #[.pointer (some ⟨p, 0, none⟩), .int .i64 id] W fun e w' => e = .returned (.tuple #[rv y, .bool b]) ∧ Below W.heap.size W w' := by
  have HP := Lib.hid hp
  have HL := Lib.hid hl
  clear hp hl
  go_enter Try.func29, Try.ntmps29
  go_upto_region 3 with fail
  refine at_code (S := fun w => Blk w W.heap.size ru0.cells ∧ Below W.heap.size W w) ⟨Blk.new W 57 ru0.cells, bel_al (Below.refl _ _) _⟩ (fun W1 h1 => ?_)
  have X1 := Lib.hid h1.1
  have B1 := Lib.hid h1.2
  have p0 : W1.cell? ⟨p, 0, none⟩ = some (.map m) := (h1.2.cell (p := ⟨p, 0, none⟩) (cell_lt (o := 0) (by rw [HP.out]; rfl))).trans HP.out
  have hl := HL.out W1 h1.2
  clear h1
  go_upto_region 4 with fail
  refine at_code (S := fun w => Blk w W.heap.size ru0.cells ∧ Blk w W1.heap.size y.cells ∧ Below W.heap.size W w) ⟨X1.out.on (bel_al (Below.refl _ _) _), Blk.new W1 57 y.cells, bel_al B1.out _⟩ (fun W2 h2 => ?_)
  have X2 := Lib.hid h2.1
  have B2 := Lib.hid h2.2.2
  obtain ⟨⟨y_0, y_1, y_2, y_3, y_4, y_5⟩, -⟩ := blk_ru h2.2.1
  obtain ⟨⟨x_0, x_1, x_2, x_3, x_4, x_5⟩, f_0, f_1, f_2, f_3, f_4, f_5⟩ := blk_ru h2.1
  clear h2 X1 B1 p0 hl
  go_wp2
  have n1 : W.heap.size ≤ W.heap.size := Nat.le_refl _
  refine bodyPost_ret (v := .tuple #[rv y, .bool b]) (by simp [results, Try.results29, go_sem, x_0, x_1, x_2, x_3, x_4, x_5]) rfl ⟨rfl, ?_⟩
  exact (((((B2.out.setCell n1 _).setCell n1 _).setCell n1 _).setCell n1 _).setCell n1 _).setCell n1 _
/-- A table's lookups. -/
theorem tab_look {Z : Nat → Prop} {p : Nat} {W : World} {R : List Ru} (h : Tab Z p W R) : ∃ m, W.cell? ⟨p, 0, none⟩ = some (.map m) ∧ RMap W m R ∧ (R.map Ru.id).Nodup ∧ (∀ r ∈ R, rightB r.a r.n = true ∧ r.Ok) := by
  obtain ⟨m, E, t, hm, hp, -, -⟩ := h
  exact ⟨m, t.pre0.1, hm, hp.n, hp.r⟩
/-- The rule of an ID. -/
def findI (R : List Ru) (id : Int) : Ru × Bool := match R.find? (fun r => decide (r.id = id)) with
  | some r => (r, true)
  | none => (ru0, false)
theorem findI_in {R : List Ru} (hn : (R.map Ru.id).Nodup) {r : Ru} (hr : r ∈ R) : findI R r.id = (r, true) := by
  unfold findI
  cases h : R.find? (fun x => decide (x.id = r.id)) with
  | none => have := List.find?_eq_none.1 h r hr; simp at this
  | some s =>
    have h1 := List.mem_of_find?_eq_some h
    have h2 := List.find?_some h
    rw [id_inj hn h1 hr (of_decide_eq_true h2)]
theorem findI_out {R : List Ru} {id : Int} (h : id ∉ R.map Ru.id) : findI R id = (ru0, false) := by
  unfold findI
  cases hh : R.find? (fun x => decide (x.id = id)) with
  | none => rfl
  | some s =>
    have h2 := List.find?_some hh
    exact absurd (List.mem_map.2 ⟨s, List.mem_of_find?_eq_some hh, of_decide_eq_true h2⟩) h
theorem get_any {Z : Nat → Prop} {p : Nat} {W : World} {R : List Ru} (h : Tab Z p W R) (id : Int) (hv : I64 id) :
    Calls Try.prog 29 #[.pointer (some ⟨p, 0, none⟩), .int .i64 id] W fun e w' => e = .returned (.tuple #[rv (findI R id).1, .bool (findI R id).2]) ∧ Below W.heap.size W w' := by
  obtain ⟨m, hp, hm, hn, hr⟩ := tab_look h
  by_cases c : id ∈ R.map Ru.id
  · obtain ⟨r, h1, rfl⟩ := List.mem_map.1 c
    rw [findI_in hn h1]
    exact get_core W p m r.id r true hp (fun w hb => rm_some (hm.on hb) hn true r h1 hv)
  · rw [findI_out c]
    exact get_core W p m id ru0 false hp (fun w hb => rm_none (hm.on hb) true id hv c)
set_option maxRecDepth 100000 in
theorem get_nil (W : World) (id : Int) : Calls Try.prog 29 #[.pointer none, .int .i64 id] W fun e w' => e = .returned (.tuple #[rv ru0, .bool false]) ∧ Below W.heap.size W w' := by
  go_enter Try.func29, Try.ntmps29
  go_upto_region 1 with fail
  refine at_code (S := fun w => Blk w W.heap.size ru0.cells ∧ Below W.heap.size W w) ⟨Blk.new W 57 ru0.cells, bel_al (Below.refl _ _) _⟩ (fun W1 h1 => ?_)
  have X1 := Lib.hid h1.1
  have B1 := Lib.hid h1.2
  obtain ⟨⟨x_0, x_1, x_2, x_3, x_4, x_5⟩, f_0, f_1, f_2, f_3, f_4, f_5⟩ := blk_ru h1.1
  clear h1
  have zr := zeroRule
  go_wp2
  have n1 : W.heap.size ≤ W.heap.size := Nat.le_refl _
  refine bodyPost_ret (v := .tuple #[rv ru0, .bool false]) (by simp [results, Try.results29, go_sem, x_0, x_1, x_2, x_3, x_4, x_5]) rfl ⟨rfl, ?_⟩
  exact (((((B1.out.setCell n1 _).setCell n1 _).setCell n1 _).setCell n1 _).setCell n1 _).setCell n1 _
theorem tlen_any {Z : Nat → Prop} {p : Nat} {W : World} {R : List Ru} (h : Tab Z p W R) : Calls Try.prog 28 #[.pointer (some ⟨p, 0, none⟩)] W fun e w' => e = .returned (.int .i64 (R.length : Nat)) ∧ W = w' := by
  obtain ⟨m, hp, hm, hn, -⟩ := tab_look h
  have hl := rm_len hm hn
  clear hm
  go_enter Try.func28, Try.ntmps28
  go_wp2
  go_ret
  exact ⟨rfl, rfl⟩
theorem tlen_nil (W : World) : Calls Try.prog 28 #[.pointer none] W fun e w' => e = .returned (.int .i64 0) ∧ W = w' := by
  go_enter Try.func28, Try.ntmps28
  go_wp2
  go_ret
  exact ⟨rfl, rfl⟩
set_option maxRecDepth 100000 in
theorem tdrop_nil (W : World) (id : Int) : Calls Try.prog 24 #[.pointer none, .int .i64 id] W fun e w' => e = .returned (.int .i64 2) ∧ W = w' := by
  go_enter Try.func24, Try.ntmps24
  go_wp2
  go_ret
  exact ⟨rfl, rfl⟩
set_option maxRecDepth 100000 in
theorem tadd_nil (W : World) (r : Ru) : Calls Try.prog 26 #[.pointer none, rv r] W fun e w' => e = .returned (.int .i64 2) ∧ Below W.heap.size W w' := by
  go_enter Try.func26, Try.ntmps26
  go_wp2
  go_ret
  exact ⟨rfl, bel_al (Below.refl _ _) _⟩
set_option maxRecDepth 100000 in
theorem tdrop_none {Z : Nat → Prop} {p : Nat} {W : World} {R : List Ru} (h : Tab Z p W R) (id : Int) (hv : I64 id) (hn : id ∉ R.map Ru.id) :
    Calls Try.prog 24 #[.pointer (some ⟨p, 0, none⟩), .int .i64 id] W fun e w' => e = .returned (.int .i64 3) ∧ Below W.heap.size W w' := by
  obtain ⟨m, p0, hm, -, -⟩ := tab_look h
  have hl := rm_none hm true id hv hn
  clear hm
  go_enter Try.func24, Try.ntmps24
  go_upto_region 4 with fail
  refine at_code (S := fun w => Below W.heap.size W w) (bel_al (Below.refl _ _) _) (fun W2 h2 => ?_)
  have B2 := Lib.hid h2
  clear h2 hl p0
  go_wp2
  go_ret
  exact ⟨rfl, B2.out⟩
set_option maxRecDepth 100000 in
set_option maxHeartbeats 1000000 in
theorem tdrop_some {Z : Nat → Prop} {p : Nat} {W : World} {R : List Ru} (h : Tab Z p W R) (r : Ru) (hr : r ∈ R) (hR : R.length ≤ 100000) :
    Calls Try.prog 24 #[.pointer (some ⟨p, 0, none⟩), .int .i64 r.id] W fun e w' => e = .returned (.int .i64 0) ∧ Tab Z p w' (dropI R r.id) ∧ Hold Z W w' := by
  obtain ⟨m, E, t, hm, hp, hl, hmz⟩ := h
  obtain ⟨hrr, hro⟩ := hp.r r hr
  obtain ⟨p0, f0⟩ := t.pre0
  have hlk := rm_some hm hp.n true r hr hro.2
  have HN := Lib.hid (hp.less hr)
  have HT := Lib.hid t
  have HM := Lib.hid hm
  have HZ := Lib.hid hmz
  have HO := Lib.hid hro
  have HRR := Lib.hid hrr
  have hE : E.length ≤ 100000 := by omega
  have hEn := Lib.hid t.nodup
  have hmb : ∃ b, m = some b := by
    cases m with
    | none => have hm : R = [] := hm; rw [hm] at hr; cases hr
    | some b => exact ⟨b, rfl⟩
  obtain ⟨b, rfl⟩ := hmb
  clear t hm hp hl hmz hrr hr hro
  go_enter Try.func24, Try.ntmps24
  go_upto_region 4 with fail
  refine at_code (S := fun w => Blk w W.heap.size r.cells ∧ Below W.heap.size W w) ⟨Blk.new W 57 r.cells, bel_al (Below.refl _ _) _⟩ (fun W1 h1 => ?_)
  have X1 := Lib.hid h1.1
  have T1 := Lib.hid (HT.out.on h1.2)
  have M1 := Lib.hid (HM.out.on h1.2)
  have H1 := Lib.hid (show Hold Z W W1 from Hold.of h1.2)
  have hbn : Hid (b ≠ W.heap.size) := Lib.hid (Nat.ne_of_lt HM.out.lt)
  clear h1 hlk p0 f0
  obtain ⟨p0, f0⟩ := T1.out.pre0
  obtain ⟨W2, hdel, hm2, ho⟩ := rm_del M1.out r.id HO.out.2 0
  have K : Keep (fun i => i = b) W1 W2 := (Keep.refl _ W1).only ho (fun _ => rfl)
  have T2 := Lib.hid (HT.out.on (Below.refl _ _))
  clear T2
  have T2 := Lib.hid (T1.out.keep K (fun i _ e => Or.inr (by rw [e])))
  have M2 := Lib.hid hm2
  have X2 := Lib.hid (Keep.blk K X1.out (fun e => hbn.out e.symm))
  have H2 := Lib.hid (show Hold Z W W2 from H1.out.trans (K.mono (fun i _ e => by rw [e]; exact HZ.out b rfl)))
  clear hm2 ho K T1 M1 X1 H1
  go_upto_region 7 with fail
  refine at_code (S := fun w => Tri (fun k => Z k ∨ some b = some k) p [.map (some b)] w E ∧ RMap w (some b) (dropI R r.id) ∧ Blk w W.heap.size r.cells ∧ Hold Z W w) ⟨T2.out, M2.out, X2.out, H2.out⟩ (fun W3 h3 => ?_)
  have T3 := Lib.hid (h3.1.on (Below.drew (Below.refl W3.heap.size W3)))
  have M3 := Lib.hid (h3.2.1.on (Below.drew (Below.refl W3.heap.size W3)))
  have H3 := Lib.hid (show Hold Z W W3.drew from h3.2.2.2.trans (Hold.of (Below.drew (Below.refl _ _))))
  have x_2 := h3.2.2.1.1 2 _ rfl
  have x_3 := h3.2.2.1.1 3 _ rfl
  clear h3 T2 M2 X2 H2 hdel p0 f0
  have CD := Lib.hid (tDrop T3.out r.a r.n r.id HO.out.1 HO.out.2 hE)
  have hc : dropC E r.a r.n r.id = 0 := by unfold dropC; rw [HRR.out, if_pos rfl]; exact if_pos HN.out.1
  have hf : dropF E r.a r.n r.id = dropE E (re r) := by unfold dropF; rw [HRR.out, if_pos rfl]; rfl
  rw [hc, hf] at CD
  have GO : ∀ w7, Tri (fun k => Z k ∨ some b = some k) p [.map (some b)] w7 (dropE E (re r)) → Hold (fun k => Z k ∨ some b = some k) W3.drew w7 → Tab Z p w7 (dropI R r.id) ∧ Hold Z W w7 := fun w7 ht hh =>
    ⟨⟨some b, _, ht, M3.out.keep hh (fun k e q => q (Or.inr e)), HN.out.2, HN.out.2.len (nodup_dropE hEn.out), fun k e => by cases e; exact HZ.out b rfl⟩, H3.out.trans (hh.less (fun k q => Or.inl q))⟩
  go_region_with (go_at_call 9; refine CD.out.mono ?_; rintro e w7 ⟨rfl, ht, hh⟩; have FIN := Lib.hid (GO w7 ht hh); clear ht hh)
  all_goals (rename_i w7 FIN; clear GO CD x_2 x_3 hc hf; go_wp2; go_ret; exact ⟨rfl, FIN.out⟩)
/-- What Drop answers, and leaves. -/
def tdropC (R : List Ru) (id : Int) : Int := if id ∈ R.map Ru.id then 0 else 3
theorem dropI_none {R : List Ru} {id : Int} (h : id ∉ R.map Ru.id) : dropI R id = R := List.filter_eq_self.2 (fun r hr => by
  simp only [ne_eq, decide_not, Bool.not_eq_eq_eq_not, Bool.not_true, decide_eq_false_iff_not]
  intro e; exact h (List.mem_map.2 ⟨r, hr, e⟩))
theorem tdrop_any {Z : Nat → Prop} {p : Nat} {W : World} {R : List Ru} (h : Tab Z p W R) (id : Int) (hv : I64 id) (hR : R.length ≤ 100000) :
    Calls Try.prog 24 #[.pointer (some ⟨p, 0, none⟩), .int .i64 id] W fun e w' => e = .returned (.int .i64 (tdropC R id)) ∧ Tab Z p w' (dropI R id) ∧ Hold Z W w' := by
  unfold tdropC
  by_cases c : id ∈ R.map Ru.id
  · rw [if_pos c]
    obtain ⟨r, h1, rfl⟩ := List.mem_map.1 c
    exact tdrop_some h r h1 hR
  · rw [if_neg c, dropI_none c]
    exact (tdrop_none h id hv c).mono (fun e w' q => ⟨q.1, h.on q.2, Hold.of q.2⟩)
set_option maxRecDepth 100000 in
theorem tadd_wrong {Z : Nat → Prop} {p : Nat} {W : World} (r : Ru) (ha : r.a < 4294967296) (hr : rightB r.a r.n = false) :
    Calls Try.prog 26 #[.pointer (some ⟨p, 0, none⟩), rv r] W fun e w' => e = .returned (.int .i64 13) ∧ Below W.heap.size W w' := by
  have hC := Lib.hid (cright_any r.a r.n ha)
  rw [hr] at hC
  go_enter Try.func26, Try.ntmps26
  go_upto_region 1 with fail
  refine at_code (S := fun w1 => Blk w1 W.heap.size r.cells ∧ Below W.heap.size W w1) ⟨Blk.new _ _ _, bel_al (Below.refl _ _) _⟩ (fun W1 hW => ?_)
  have B1 := Lib.hid hW.2
  have x_2 := hW.1.1 2 _ rfl
  have x_3 := hW.1.1 3 _ rfl
  clear hW
  go_wp2_with fail
  refine (hC.out W1).mono ?_
  rintro e w2 ⟨rfl, hb⟩
  have B2 := Lib.hid (bel_on' B1.out hb)
  clear hb x_2 x_3 B1 hC
  go_wp2
  go_ret
  exact ⟨rfl, B2.out⟩
set_option maxRecDepth 100000 in
set_option maxHeartbeats 1000000 in
theorem tadd_there {Z : Nat → Prop} {p : Nat} {W : World} {R : List Ru} (h : Tab Z p W R) (r : Ru) (ho : r.Ok) (hr : rightB r.a r.n = true) (hin : r.id ∈ R.map Ru.id) :
    Calls Try.prog 26 #[.pointer (some ⟨p, 0, none⟩), rv r] W fun e w' => e = .returned (.int .i64 4) ∧ Below W.heap.size W w' := by
  obtain ⟨m, hp, hm, hn, -⟩ := tab_look h
  obtain ⟨s, hs, hid⟩ := List.mem_map.1 hin
  have hv : I64 s.id := by rw [hid]; exact ho.2
  have hC := Lib.hid (cright_any r.a r.n ho.1)
  rw [hr] at hC
  have HP := Lib.hid hp
  have HL := Lib.hid (show ∀ w, Below W.heap.size W w → (Instr.lookup 106 (.map m) (.int .i64 r.id) true).run Try.prog w = .ok (.tuple #[rv s, .bool true]) w from fun w hb => by rw [← hid]; exact rm_some (hm.on hb) hn true s hs hv)
  clear hm hp hr hv hid hs hin
  go_enter Try.func26, Try.ntmps26
  go_upto_region 1 with fail
  refine at_code (S := fun w1 => Blk w1 W.heap.size r.cells ∧ Below W.heap.size W w1) ⟨Blk.new _ _ _, bel_al (Below.refl _ _) _⟩ (fun W1 hW => ?_)
  have X1 := Lib.hid hW.1
  have B1 := Lib.hid hW.2
  have x_2 := hW.1.1 2 _ rfl
  have x_3 := hW.1.1 3 _ rfl
  clear hW ho
  go_wp2_with fail
  refine (hC.out W1).mono ?_
  rintro e w2 ⟨rfl, hb⟩
  have X2 := Lib.hid (X1.out.on hb)
  have B2 := Lib.hid (bel_on' B1.out hb)
  clear hb x_2 x_3 X1 B1 hC
  have x_0 := X2.out.1 0 _ rfl
  have p0 : w2.cell? ⟨p, 0, none⟩ = some (.map m) := (B2.out.cell (p := ⟨p, 0, none⟩) (cell_lt (o := 0) (by rw [HP.out]; rfl))).trans HP.out
  have HS : Hid (∀ w', Below w2.heap.size w2 w' → (Below w2.heap.size w2 w' ∧ ∀ b o, (w2.cell? ⟨b, o, none⟩).isSome = true → w'.cell? ⟨b, o, none⟩ = w2.cell? ⟨b, o, none⟩) ∧ (Instr.lookup 106 (.map m) (.int .i64 r.id) true).run Try.prog w' = .ok (.tuple #[rv s, .bool true]) w') := Lib.hid (fun w' hb => ⟨ckeep hb, HL.out w' (bel_on' B2.out hb)⟩)
  go_upto_region 5 with fail
  go_region_held3 (fun w' => (Below w2.heap.size w2 w' ∧ ∀ b o, (w2.cell? ⟨b, o, none⟩).isSome = true → w'.cell? ⟨b, o, none⟩ = w2.cell? ⟨b, o, none⟩) ∧ (Instr.lookup 106 (.map m) (.int .i64 r.id) true).run Try.prog w' = .ok (.tuple #[rv s, .bool true]) w')
    ((refine HS.out _ ?_; repeat (first | exact Below.refl _ _ | assumption | refine Below.drew ?_ | refine cbelow_al ?_ _ | (refine Below.setCell ?_ (by simp; omega) _))))
    (fail)
  all_goals
    go_upto_region 6 with fail
    refine at_code (S := fun w => Below w2.heap.size w2 w) (by repeat (first | exact Below.refl _ _ | assumption | refine Below.drew ?_ | refine cbelow_al ?_ _ | (refine Below.setCell ?_ (by simp; omega) _))) (fun W3 h3 => ?_)
    have B3 := Lib.hid (bel_on' B2.out h3)
    clear h3 x_0 p0 HS X2 B2
    go_wp2
    go_ret
    exact ⟨rfl, B3.out⟩
/-- What Add answers, and leaves. -/
def taddC (R : List Ru) (r : Ru) : Int := if rightB r.a r.n then (if r.id ∈ R.map Ru.id then 4 else 0) else 13
def taddF (R : List Ru) (r : Ru) : List Ru := if rightB r.a r.n then (if r.id ∈ R.map Ru.id then R else r :: R) else R
theorem tadd_any {Z : Nat → Prop} {p : Nat} {W : World} {R : List Ru} (h : Tab Z p W R) (r : Ru) (ho : r.Ok) (hR : R.length ≤ 100000) :
    Calls Try.prog 26 #[.pointer (some ⟨p, 0, none⟩), rv r] W fun e w' => e = .returned (.int .i64 (taddC R r)) ∧ Tab Z p w' (taddF R r) ∧ Hold Z W w' := by
  unfold taddC taddF
  cases hr : rightB r.a r.n with
  | false => exact (tadd_wrong (Z := Z) r ho.1 hr).mono (fun e w' q => ⟨q.1, h.on q.2, Hold.of q.2⟩)
  | true =>
    simp only [if_true]
    by_cases c : r.id ∈ R.map Ru.id
    · rw [if_pos c, if_pos c]
      exact (tadd_there h r ho hr c).mono (fun e w' q => ⟨q.1, h.on q.2, Hold.of q.2⟩)
    · rw [if_neg c, if_neg c]
      exact tab_add_new h r hr ho c hR
end Go.Proofs.Ytgcbngephokegaa
