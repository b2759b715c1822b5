/- A table beside the document's list of rules; changes. Made: a table and the document's list, behind changes. -/
import Derived.Test.YtgcbngephokegaaT20
import Derived.Test.YtgcbngephokegaaRW
namespace Go.Proofs.Ytgcbngephokegaa
open Go.RowKit Go.Maps Go.MapKept Go.ChangeMaps Go.WideElems Go.Joins
set_option linter.unusedVariables false
set_option linter.unusedSimpArgs false

/-- A change. -/
structure ChR where
  d : Bool
  r : Ru
def ChR.cells (x : ChR) : List Value := [.bool x.d, .int .i64 x.r.id, .int .i64 x.r.dev, .int .u32 (x.r.a : Nat), .int .i64 x.r.n, .int .i64 x.r.prio, .int .i64 x.r.out]
def ChR.Ok (x : ChR) : Prop := x.r.Ok
theorem chg_at {w : World} {la : Option Addr} {L : List ChR} (hr : Rw w la (L.flatMap ChR.cells)) {i : Nat} {x : ChR} (hx : L[i]? = some x) : ∃ b off, la = some ⟨b, off, none⟩ ∧
    w.cell? ⟨b, off + i * 7, none⟩ = some (.bool x.d) ∧ w.cell? ⟨b, off + i * 7 + 1, none⟩ = some (.int .i64 x.r.id) ∧ w.cell? ⟨b, off + i * 7 + 2, none⟩ = some (.int .i64 x.r.dev) ∧ w.cell? ⟨b, off + i * 7 + 3, none⟩ = some (.int .u32 (x.r.a : Nat)) ∧ w.cell? ⟨b, off + i * 7 + 4, none⟩ = some (.int .i64 x.r.n) ∧ w.cell? ⟨b, off + i * 7 + 5, none⟩ = some (.int .i64 x.r.prio) ∧ w.cell? ⟨b, off + i * 7 + 6, none⟩ = some (.int .i64 x.r.out) := by
  obtain ⟨b, off, rfl⟩ := hr.elemAd 6 (fun _ => rfl) hx
  have hg := fun j v (hv : (ChR.cells x)[j]? = some v) => hr.elem 7 (fun _ => rfl) hx j hv
  refine ⟨b, off, rfl, ?_, ?_, ?_, ?_, ?_, ?_, ?_⟩
  · exact hg 0 _ rfl
  · exact hg 1 _ rfl
  · exact hg 2 _ rfl
  · exact hg 3 _ rfl
  · exact hg 4 _ rfl
  · exact hg 5 _ rfl
  · exact hg 6 _ rfl
/-- One change more. -/
def stepR2 (m : List Ru) (x : ChR) : List Ru := if x.d then dropI m x.r.id else raddF m x.r
def stepK (m : List Ru) (x : ChR) : Int := if x.d then tdropC m x.r.id else taddC m x.r
def madeL (L : List ChR) : List Ru := L.foldl stepR2 []
theorem madeL_snoc (L : List ChR) (i : Nat) (x : ChR) (hx : L[i]? = some x) : madeL (L.take (i + 1)) = stepR2 (madeL (L.take i)) x := by
  unfold madeL
  rw [List.take_add_one, hx, Option.toList_some, List.foldl_append]
  rfl
theorem foldl_stepR2_len : ∀ (L : List ChR) (m : List Ru), (L.foldl stepR2 m).length ≤ m.length + L.length
  | [], m => Nat.le_refl _
  | x :: L, m => by
    have h1 := foldl_stepR2_len L (stepR2 m x)
    have h2 : (stepR2 m x).length ≤ m.length + 1 := by
      unfold stepR2
      split
      · have := dropI_len m x.r.id; omega
      · exact raddF_len m x.r
    rw [List.foldl_cons, List.length_cons]; omega
theorem madeL_len (L : List ChR) (i : Nat) : (madeL (L.take i)).length ≤ i := by
  have := foldl_stepR2_len (L.take i) []
  rw [List.length_take, List.length_nil] at this
  unfold madeL; omega
section
variable {Z Y : Nat → Prop} {W w w' : World} {p : Nat} {lv : Value} {m m' : List Ru}
theorem Tab.less {Z' : Nat → Prop} (h : Tab Z p w m) (hz : ∀ k, Z' k → Z k) : Tab Z' p w m := by
  obtain ⟨o, E, t, hm, hp, hl, hn⟩ := h
  exact ⟨o, E, t.less (fun k q => q.imp (hz k) id), hm, hp, hl, fun k e q => hn k e (hz k q)⟩
theorem Tab.grow (h : Tab Z p w m) (hb : Below w.heap.size w w') : Tab (fun k => Z k ∨ (w.heap.size ≤ k ∧ k < w'.heap.size)) p w' m := by
  obtain ⟨o, E, t, hm, hp, hl, hn⟩ := h
  refine ⟨o, E, (t.grow hb (Y := fun k => w.heap.size ≤ k ∧ k < w'.heap.size) (fun k q => q)).less (fun k q => ?_), hm.on hb, hp, hl, fun k e q => ?_⟩
  · rcases q with (q | q) | q
    · exact Or.inl (Or.inl q)
    · exact Or.inr q
    · exact Or.inl (Or.inr q)
  · rcases q with q | q
    · exact hn k e q
    · subst e
      have := hm.lt
      omega
theorem Tab.mine (h : Tab Z p w m) : ¬ Z p := by obtain ⟨o, E, t, -⟩ := h; exact fun q => t.mine (Or.inl q)
theorem Tab.low (h : Tab Z p w m) (k : Nat) (hk : Z k) : k < w.heap.size := by obtain ⟨o, E, t, -⟩ := h; exact t.low k (Or.inl hk)
/-- The table and the list behind so many changes. -/
structure TM (Y : Nat → Prop) (W : World) (p : Nat) (w : World) (lv : Value) (m : List Ru) : Prop where
  t : Tab (fun k => k < W.heap.size ∨ Y k) p w m
  h : Hold (fun k => k < W.heap.size) W w
  l : Rules w W.heap.size lv m
  y : InY Y W.heap.size lv
  a : Asked m
theorem TM.r (h : TM Y W p w lv m) : MRight m := tab_right h.t
theorem TM.below (h : TM Y W p w lv m) : Below W.heap.size W w := Hold.below h.h (Nat.le_refl _) (fun k hk => hk)
theorem TM.on (h : TM Y W p w lv m) (hb : Below w.heap.size w w') : TM Y W p w' lv m := ⟨h.t.on hb, h.h.trans (Hold.of hb), Row.on h.l hb, h.y, h.a⟩
theorem TM.box (h : TM Y W p w lv m) (o : Obj) : TM (fun k => Y k ∨ k = w.heap.size) W p (w.alloc o) lv m :=
  ⟨(h.t.grow (bel_al (Below.refl _ _) o)).less (fun k q => by
    rcases q with q | q | q
    · exact Or.inl (Or.inl q)
    · exact Or.inl (Or.inr q)
    · exact Or.inr (by rw [q, World.size_alloc]; omega)), h.h.trans (Hold.of (bel_al (Below.refl _ _) _)), Row.on h.l (bel_al (Below.refl _ _) _), h.y.more (fun _ q => Or.inl q), h.a⟩
/-- What the list is while the table goes ahead. -/
theorem TM.rows (h : TM Y W p w lv m) (k : Hold (fun k => k < W.heap.size ∨ Y k) w w') : Rules w' W.heap.size lv m := row_hold h.l h.y (k.less (fun i q => Or.inr q))
theorem TM.step (t : Tab (fun k => k < W.heap.size ∨ Y k) p w m) (hh : Hold (fun k => k < W.heap.size) W w) (hy : InY Y W.heap.size lv) (a : Asked m) {u : Value} (h : RLeft w w' W.heap.size lv u m) : TM (fun k => Y k ∨ (w.heap.size ≤ k ∧ k < w'.heap.size)) W p w' u m := by
  refine ⟨(t.grow h.2.1).less (fun k q => ?_), hh.trans (Hold.of h.2.1), h.1, fun i e => ?_, a⟩
  · rcases q with q | q | q
    · exact Or.inl (Or.inl q)
    · exact Or.inl (Or.inr q)
    · exact Or.inr q
  · rcases h.2.2 with q | q
    · rw [q] at e
      exact ⟨Or.inl (hy i e).1, (hy i e).2⟩
    · have := row_own q i e
      exact ⟨Or.inr this, Nat.le_trans hh.size this.1⟩
end
theorem Asked.step {m : List Ru} (h : Asked m) (x : ChR) : Asked (stepR2 m x) := by
  unfold stepR2; split
  · exact h.drop _
  · exact (h.add x.r).1
end Go.Proofs.Ytgcbngephokegaa
namespace Go.Proofs.Ytgcbngephokegaa
open Go.RowKit Go.Maps Go.MapKept Go.ChangeMaps Go.WideElems Go.Joins
set_option linter.unusedVariables false
set_option linter.unusedSimpArgs false

set_option maxRecDepth 100000 in
set_option maxHeartbeats 4000000 in
theorem made_any (L : List ChR) (la : Option Addr) (lc : Nat) (hok : ∀ x ∈ L, x.Ok) (hn : L.length ≤ 1000) (W : World) (hr : Rw W la (L.flatMap ChR.cells)) :
    Calls Try.prog 36 #[.slice la L.length lc] W fun e w' => ∃ p lv Y, e = .returned (.tuple #[.pointer (some ⟨p, 0, none⟩), lv]) ∧ TM Y W p w' lv (madeL L) := by
  have R := Lib.hid hr
  have OK := Lib.hid hok
  obtain ⟨n, hN⟩ : ∃ n, L.length = n := ⟨_, rfl⟩
  have hE1 : Hid (∀ i, (madeL (L.take i)).length ≤ i) := Lib.hid (fun i => madeL_len L i)
  have HAI : Hid (∀ i, Asked (madeL (L.take i))) := Lib.hid (fun i => by
    have : ∀ (L : List ChR) (m : List Ru), Asked m → Asked (L.foldl stepR2 m) := fun L => by
      induction L with
      | nil => exact fun m h => h
      | cons x L ih => exact fun m h => ih _ (h.step x)
    exact this _ _ asked_nil)
  rw [hN] at hn ⊢
  have HN := Lib.hid hN
  have CN := Lib.hid (sNewTab W)
  clear hr hok hN
  go_enter Try.func36, Try.ntmps36
  go_wp2_with fail
  refine CN.out.mono ?_
  rintro e w1 ⟨rfl, h1, h2⟩
  have P1 : Hid (TM (fun _ => False) W W.heap.size w1 (.slice none 0 0) (madeL (L.take 0))) := Lib.hid ⟨h1.less (fun k q => q.elim id (fun q => q.elim)), Hold.of h2, row_nil _ _ _ _, fun i e => (by cases e), asked_nil⟩
  obtain ⟨p, hp⟩ : ∃ p, W.heap.size = p := ⟨_, rfl⟩
  have P1' : Hid (TM (fun _ => False) W p w1 (.slice none 0 0) (madeL (L.take 0))) := Lib.hid (by rw [← hp]; exact P1.out)
  rw [hp]
  clear h1 h2 CN P1 hp
  go_wp2_with fail
  go_loopw [5, 11] (fun lv iv wr => ∃ (i : Nat) (Y : Nat → Prop), iv = .int .i64 (i : Nat) ∧ i ≤ n ∧ Hid (TM Y W p wr lv (madeL (L.take i)))) (fun _ iv _ => n - (intOf iv).toNat)
  case atStart => exact ⟨0, _, rfl, Nat.zero_le _, P1'⟩
  case round =>
    obtain ⟨i, Y, rfl, hi, S⟩ := hrel
    clear P1'
    by_cases hin : i < n
    · have hw1 : IntKind.i64.wrap ((i : Int) + 1) = ((i + 1 : Nat) : Int) := by rw [IntKind.wrap_i64]; omega
      obtain ⟨x, hx⟩ : ∃ x, L[i]? = some x := ⟨_, List.getElem?_eq_getElem (by rw [HN.out]; exact hin)⟩
      obtain ⟨b, o, rfl, c_0, c_1, c_2, c_3, c_4, c_5, c_6⟩ := chg_at (R.out.on S.out.below) hx
      have hxo := Lib.hid (show x.r.Ok from OK.out x (List.mem_of_getElem? hx))
      have hsn := Lib.hid (madeL_snoc L i x hx)
      have hl1 := hE1.out i
      have HAN := Lib.hid (HAI.out (i + 1))
      obtain ⟨m, hm⟩ : ∃ m, madeL (L.take i) = m := ⟨_, rfl⟩
      rw [hm] at hsn S hl1
      have hml : m.length ≤ 100000 := by omega
      obtain ⟨m', hm'⟩ : ∃ m', madeL (L.take (i + 1)) = m' := ⟨_, rfl⟩
      have HM' := Lib.hid hm'
      rw [hm'] at hsn HAN
      clear hx hm hl1 hm'
      obtain ⟨nb, hnb⟩ : ∃ n, wr.heap.size = n := ⟨_, rfl⟩
      go_upto_region 6 with fail
      refine at_code (S := fun w => Blk w nb x.cells ∧ TM (fun k => Y k ∨ k = nb) W p w u5 m) ⟨by rw [← hnb]; exact Blk.new wr 59 x.cells, by rw [← hnb]; exact S.out.box _⟩ (fun w2 h2 => ?_)
      have S2 := Lib.hid h2.2
      have X2 := Lib.hid h2.1
      have x_0 := h2.1.1 0 _ rfl
      have x_1 := h2.1.1 1 _ rfl
      have x_2 := h2.1.1 2 _ rfl
      have x_3 := h2.1.1 3 _ rfl
      have x_4 := h2.1.1 4 _ rfl
      have x_5 := h2.1.1 5 _ rfl
      have x_6 := h2.1.1 6 _ rfl
      clear h2 c_0 c_1 c_2 c_3 c_4 c_5 c_6 S hnb
      cases hd : x.d with
      | true =>
        have hs1 : m' = dropI m x.r.id := by rw [hsn.out]; unfold stepR2; rw [hd]; rfl
        have HS1 := Lib.hid hs1
        rw [hd] at x_0
        clear hs1 hd
        go_wp2_with fail
        refine (tdrop_any S2.out.t x.r.id hxo.out.2 hml).mono ?_
        rintro e w3 ⟨rfl, h3, hold⟩
        have V3 := Lib.hid (S2.out.rows hold)
        have I3 := Lib.hid S2.out.y
        have A3 := Lib.hid S2.out.a
        have H3 := Lib.hid (show Hold (fun k => k < W.heap.size) W w3 from S2.out.h.trans (hold.less (fun k q => Or.inl q)))
        have X3 := Lib.hid (hold.blk (Or.inr (Or.inr rfl)) X2.out)
        rw [← HS1.out] at h3
        have T3 := Lib.hid h3
        clear h3 hold S2 X2 x_0 x_1 x_2 x_3 x_4 x_5 x_6
        have x_1 := X3.out.1 1 _ rfl
        generalize tdropC m x.r.id = ce
        go_wp2_with fail
        refine (rrdrop_any w3 W.heap.size u5 m x.r.id A3.out.n V3.out hml H3.out.size).mono ?_
        rintro e w4 ⟨u, rfl, hl⟩
        rw [← HS1.out] at hl
        have S4 := Lib.hid (TM.step T3.out H3.out I3.out HAN.out hl)
        rw [← HM'.out] at S4
        clear hl V3 T3 I3 X3 x_1 A3 H3 HS1 HAN HM' hsn
        generalize tdropC m x.r.id = ce2
        go_wp2_with fail
        refine ⟨⟨i + 1, _, by first | rfl | rw [hw1], by omega, S4⟩, by simp [intOf] <;> omega⟩
      | false =>
        have hs1 : m' = raddF m x.r := by rw [hsn.out]; unfold stepR2; rw [hd]; rfl
        have HS1 := Lib.hid hs1
        rw [hd] at x_0
        clear hs1 hd
        go_wp2_with fail
        refine (tadd_any S2.out.t x.r hxo.out hml).mono ?_
        rintro e w3 ⟨rfl, h3, hold⟩
        have V3 := Lib.hid (S2.out.rows hold)
        have I3 := Lib.hid S2.out.y
        have A3 := Lib.hid S2.out.a
        have H3 := Lib.hid (show Hold (fun k => k < W.heap.size) W w3 from S2.out.h.trans (hold.less (fun k q => Or.inl q)))
        have X3 := Lib.hid (hold.blk (Or.inr (Or.inr rfl)) X2.out)
        have h3 := h3.add A3.out
        rw [← HS1.out] at h3
        have T3 := Lib.hid h3
        clear h3 hold S2 X2 x_0 x_1 x_2 x_3 x_4 x_5 x_6
        have x_1 := X3.out.1 1 _ rfl
        have x_2 := X3.out.1 2 _ rfl
        have x_3 := X3.out.1 3 _ rfl
        have x_4 := X3.out.1 4 _ rfl
        have x_5 := X3.out.1 5 _ rfl
        have x_6 := X3.out.1 6 _ rfl
        generalize taddC m x.r = ce
        go_wp2_with fail
        refine (rradd_any w3 W.heap.size u5 m x.r hxo.out.1 V3.out hml H3.out.size).mono ?_
        rintro e w4 ⟨u, rfl, hl⟩
        rw [← HS1.out] at hl
        have S4 := Lib.hid (TM.step T3.out H3.out I3.out HAN.out hl)
        rw [← HM'.out] at S4
        clear hl V3 T3 I3 X3 x_1 x_2 x_3 x_4 x_5 x_6 A3 H3 HS1 HAN HM' hsn
        generalize taddC m x.r = ce2
        go_wp2_with fail
        refine ⟨⟨i + 1, _, by first | rfl | rw [hw1], by omega, S4⟩, by simp [intOf] <;> omega⟩
    · obtain rfl : i = n := by omega
      have eL : L.take i = L := List.take_of_length_le (by rw [HN.out]; exact Nat.le_refl _)
      rw [eL] at S
      clear eL hE1 HN R OK HAI
      go_wp2
      exact bodyPost_ret (v := .tuple #[.pointer (some ⟨p, 0, none⟩), u5]) (by simp [results, Try.results36, go_sem]) rfl ⟨p, u5, Y, rfl, S.out⟩
end Go.Proofs.Ytgcbngephokegaa
