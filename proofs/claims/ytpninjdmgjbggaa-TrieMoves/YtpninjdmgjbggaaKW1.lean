/- Two trees of the call's own; operations in another order. -/
import Derived.Test.YtpninjdmgjbggaaKW2
namespace Go.Proofs.Ytpninjdmgjbggaa
open Go.RowKit Go.Maps Go.MapKept Go.ChangeMaps Go.WideElems Go.Joins
set_option linter.unusedVariables false

/-- Two trees of the call's own, apart from each other. -/
structure T2 (W : World) (p q : Nat) (w : World) (E F : List Ent) : Prop where
  b : ∃ (b : TL) (M : List Pth), b.bk [] = q ∧ Tl w [] b M F (M.length - 1) F.length ∧ Plain M F ∧ (∀ k, b.has M k → ¬ k < W.heap.size) ∧ Tri (fun k => k < W.heap.size ∨ b.has M k) p [] w E
  h : Hold (fun k => k < W.heap.size) W w
theorem T2.on {W w w' : World} {p q : Nat} {E F : List Ent} (h : T2 W p q w E F) (hb : Below w.heap.size w w') : T2 W p q w' E F := by
  obtain ⟨⟨b, M, h1, h2, h3, h4, h5⟩, k⟩ := h
  exact ⟨⟨b, M, h1, h2.on hb, h3, h4, h5.on hb⟩, k.trans (Hold.of hb)⟩
theorem T2.below {W w : World} {p q : Nat} {E F : List Ent} (h : T2 W p q w E F) : Below W.heap.size W w := Hold.below h.h (Nat.le_refl _) (fun k hk => hk)
theorem T2.symm {W w : World} {p q : Nat} {E F : List Ent} (h : T2 W p q w E F) : T2 W q p w F E := by
  obtain ⟨⟨b, M, h1, h2, h3, h4, a, N, k1, k2, k3, k4, k5⟩, k⟩ := h
  refine ⟨⟨a, N, k1, k2, k3, fun j hj q => k4 j hj (Or.inl q), b, M, h1, h2, h3, fun j hj q => ?_, fun j hj => ?_⟩, k⟩
  · rcases q with q | q
    · exact h4 j hj q
    · exact k4 j q (Or.inr hj)
  · rcases hj with q | q
    · exact k5 j (Or.inl q)
    · exact k2.lt j q
theorem T2.one {W w : World} {p q : Nat} {E F : List Ent} (h : T2 W p q w E F) : TS W p w E := by
  obtain ⟨⟨b, M, h1, h2, h3, h4, h5⟩, k⟩ := h
  exact ⟨h5.less (fun _ q => Or.inl q), k⟩
theorem T2.two {W w : World} {p q : Nat} {E F : List Ent} (h : T2 W p q w E F) : TS W q w F := h.symm.one
theorem t2_add {W w : World} {p q : Nat} {E F : List Ent} (h : T2 W p q w E F) (x : OpR) (hx : x.Ok) (hE : E.length ≤ 100000) :
    Calls Try.prog 15 #[.pointer (some ⟨p, 0, none⟩), pv (x.a : Nat) x.n, .int .i64 x.v] w fun e w' => e = .returned (.int .i64 (addC E x.a x.n x.v)) ∧ T2 W p q w' (addF E x.a x.n x.v) F := by
  obtain ⟨⟨b, M, h1, h2, h3, h4, h5⟩, k⟩ := h
  refine (tAdd h5 x.a x.n x.v hx.1 hx.2 hE).mono ?_
  rintro e w' ⟨rfl, k1, k2⟩
  refine ⟨rfl, ⟨⟨b, M, h1, h2.keep k2 (fun i hi q => q (Or.inr hi)), h3, h4, k1⟩, k.trans (k2.less (fun i q => Or.inl q))⟩⟩
theorem t2_add' {W w : World} {p q : Nat} {E F : List Ent} (h : T2 W p q w E F) (x : OpR) (hx : x.Ok) (hF : F.length ≤ 100000) :
    Calls Try.prog 15 #[.pointer (some ⟨q, 0, none⟩), pv (x.a : Nat) x.n, .int .i64 x.v] w fun e w' => e = .returned (.int .i64 (addC F x.a x.n x.v)) ∧ T2 W p q w' E (addF F x.a x.n x.v) :=
  (t2_add h.symm x hx hF).mono (fun e w' q => ⟨q.1, q.2.symm⟩)
theorem t2_new (W : World) (t : TypeId) : T2 W W.heap.size (W.heap.size + 1) ((W.alloc (.cells #[.pointer none, .pointer none, .map none, .int .i64 0, .int .i64 0] t)).alloc (.cells #[.pointer none, .pointer none, .map none, .int .i64 0, .int .i64 0] t)) [] [] := by
  have hb1 := Blk.new W t [.pointer none, .pointer none, .map none, .int .i64 0, .int .i64 0]
  have hb2 := Blk.new (W.alloc (.cells #[.pointer none, .pointer none, .map none, .int .i64 0, .int .i64 0] t)) t [.pointer none, .pointer none, .map none, .int .i64 0, .int .i64 0]
  rw [World.size_alloc] at hb2
  have hb1' := hb1.on (bel_al (Below.refl _ _) (.cells #[.pointer none, .pointer none, .map none, .int .i64 0, .int .i64 0] t))
  obtain ⟨b, M, h1, h2, h3, h4, h5⟩ := tri_new (fun k => k < W.heap.size ∨ k = W.heap.size) (W.heap.size + 1) _ hb2 (by omega) (fun k hk => by simp only [World.size_alloc]; omega)
  refine ⟨⟨b, M, h1, h2, h3, fun k hk q => h4 k hk (Or.inl q), tri_new _ W.heap.size _ hb1' (fun q => ?_) (fun k hk => ?_)⟩, Hold.of (bel_on' (bel_al (Below.refl _ _) _) (bel_al (Below.refl _ _) _))⟩
  · rcases q with q | q
    · exact Nat.lt_irrefl _ q
    · exact h4 _ q (Or.inr rfl)
  · rcases hk with q | q
    · simp only [World.size_alloc]; omega
    · exact h2.lt k q
/-- Operations, turned: so many of them. -/
def rotL (L : List OpR) (t i : Nat) : List OpR := (List.range i).filterMap (fun j => L[(j + t) % L.length]?)
theorem rotL_snoc (L : List OpR) (t i : Nat) (x : OpR) (hx : L[(i + t) % L.length]? = some x) : rotL L t (i + 1) = rotL L t i ++ [x] := by
  unfold rotL
  rw [List.range_succ, List.filterMap_append]
  simp [hx]
theorem addL_rot (E : List Ent) (L : List OpR) (t i : Nat) (x : OpR) (hx : L[(i + t) % L.length]? = some x) : addL E (rotL L t (i + 1)) = addF (addL E (rotL L t i)) x.a x.n x.v := by
  unfold addL
  rw [rotL_snoc L t i x hx, List.foldl_append]; rfl
theorem rotL_len (L : List OpR) (t i : Nat) : (rotL L t i).length ≤ i := by
  unfold rotL
  exact Nat.le_trans (List.length_filterMap_le _ _) (by simp)
theorem mem_rotL {L : List OpR} (t : Nat) (x : OpR) : x ∈ rotL L t L.length ↔ x ∈ L := by
  unfold rotL
  rw [List.mem_filterMap]
  constructor
  · rintro ⟨j, -, h⟩; exact List.mem_of_getElem? h
  · intro h
    obtain ⟨i, hi⟩ := List.getElem?_of_mem h
    have hl : i < L.length := by
      rcases Nat.lt_or_ge i L.length with c | c
      · exact c
      · rw [List.getElem?_eq_none c] at hi; cases hi
    have h0 : t % L.length < L.length := Nat.mod_lt _ (by omega)
    refine ⟨(i + (L.length - t % L.length)) % L.length, List.mem_range.2 (Nat.mod_lt _ (by omega)), ?_⟩
    have e : ((i + (L.length - t % L.length)) % L.length + t) % L.length = i := by
      rw [Nat.mod_add_mod]
      have := Nat.div_add_mod t L.length
      rw [show i + (L.length - t % L.length) + t = i + L.length * (t / L.length + 1) by rw [Nat.mul_add, Nat.mul_one]; omega, Nat.add_mul_mod_self_left, Nat.mod_eq_of_lt hl]
    rw [e]; exact hi
theorem addL_rot_mem {L : List OpR} (t : Nat) (y : Ent) : y ∈ addL [] (rotL L t L.length) ↔ y ∈ addL [] L := by
  rw [mem_addL, mem_addL]
  exact or_congr Iff.rfl ⟨fun ⟨x, h1, h2⟩ => ⟨x, (mem_rotL t x).1 h1, h2⟩, fun ⟨x, h1, h2⟩ => ⟨x, (mem_rotL t x).2 h1, h2⟩⟩
/-- A prefix's last address. -/
def full (q : Pth) : Pth := q ++ List.replicate (32 - q.length) true
theorem full_len (q : Pth) (h : q.length ≤ 32) : (full q).length = 32 := by unfold full; rw [List.length_append, List.length_replicate]; omega
theorem met_self {E : List Ent} (hn : E.Nodup) {x : Ent} (hx : x ∈ E) (hl : x.1.length ≤ 32) : x ∈ srt E (metQ (pth (ad x.1) 32)) :=
  ((srt_lst hn _).2 x).2 ⟨hx, decide_eq_true (Or.inl (by have := pth_pre (ad x.1) hl; rwa [pth_ad x.1 hl] at this))⟩
theorem met_last {E : List Ent} (hn : E.Nodup) {x : Ent} (hx : x ∈ E) (hl : x.1.length ≤ 32) : x ∈ srt E (metQ (pth (ad (full x.1)) 32)) := by
  have h := pth_ad (full x.1) (by rw [full_len _ hl]; exact Nat.le_refl _)
  rw [full_len _ hl] at h
  rw [h]
  exact ((srt_lst hn _).2 x).2 ⟨hx, decide_eq_true (Or.inl ⟨_, rfl⟩)⟩
end Go.Proofs.Ytpninjdmgjbggaa
