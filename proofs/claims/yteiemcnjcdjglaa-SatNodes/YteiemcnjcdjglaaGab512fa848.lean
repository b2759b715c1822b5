/- Texts joined, in their order: SN, SM, TN, RE. -/
import Derived.Test.YteiemcnjcdjglaaG99e6f60b44
import Derived.Test.YteiemcnjcdjglaaGf97ea61b17
import Derived.Test.YteiemcnjcdjglaaG7d8162db53
/- How many nodes sets have: the calls' contracts. -/
namespace Go.Proofs.Yteiemcnjcdjglaa
open Go.RowKit Go.Maps Go.MapKept Go.ChangeMaps Go.WideElems Go.Joins
set_option linter.unusedVariables false
set_option linter.unusedSimpArgs false

theorem viF_len {ns : List Nd} (h : WF ns) : ∀ k (m : List Nat) c f, f < ns.length → (∀ x ∈ m, x < ns.length) → m.Nodup →
    (∀ x ∈ (viF ns k m c f).1, x < ns.length) ∧ (viF ns k m c f).1.Nodup ∧ m.length ≤ (viF ns k m c f).1.length ∧ (viF ns k m c f).2 ≤ c + 1 + 2 * ((viF ns k m c f).1.length - m.length)
  | 0, m, c, f, hf, hm, hn => ⟨hm, hn, Nat.le_refl _, by show c ≤ _; omega⟩
  | k + 1, m, c, f, hf, hm, hn => by
    rw [viF_succ]
    by_cases q : f ≤ 1
    · rw [if_pos q]; exact ⟨hm, hn, Nat.le_refl _, by show c ≤ _; omega⟩
    rw [if_neg q]
    by_cases r : f ∈ m
    · rw [if_pos r]; exact ⟨hm, hn, Nat.le_refl _, by show c + 1 ≤ _; omega⟩
    rw [if_neg r]
    obtain ⟨a, b, -⟩ := h.parts (by omega) hf
    obtain ⟨A1, A2, A3, A4⟩ := viF_len h k (f :: m) (c + 1) (ns.getD f bot).l (by omega) (fun x hx => by rcases List.mem_cons.1 hx with rfl | hx; exact hf; exact hm x hx) (List.nodup_cons.2 ⟨r, hn⟩)
    obtain ⟨R, hR⟩ : ∃ R, viF ns k (f :: m) (c + 1) (ns.getD f bot).l = R := ⟨_, rfl⟩
    rw [hR] at A1 A2 A3 A4 ⊢
    simp only [List.length_cons] at A3 A4
    obtain ⟨B1, B2, B3, B4⟩ := viF_len h k R.1 R.2 (ns.getD f bot).h (by omega) A1 A2
    exact ⟨B1, B2, by omega, by omega⟩
theorem few_keys {ks : List Nat} {n : Nat} (hn : ks.Nodup) (h : ∀ x ∈ ks, x < n) : ks.length ≤ n := by
  have := nodup_sub ks (List.range n) hn (fun x hx => List.mem_range.2 (h x hx))
  rwa [List.length_range] at this
/-- What was met, how often. -/
structure VW (m : List (Nat × Nat)) (ks : List Nat) (c : Nat) : Prop where
  key : ∀ k, k ∈ m.map (·.1) ↔ k ∈ ks
  one : (m.map (·.1)).Nodup
  val : ∀ p ∈ m, 1 ≤ p.2 ∧ p.2 ≤ c
theorem VW.few {m : List (Nat × Nat)} {ks : List Nat} {c : Nat} (h : VW m ks c) : m.length ≤ ks.length := by
  have := nodup_sub _ ks h.one (fun k hk => (h.key k).1 hk)
  rwa [List.length_map] at this
theorem VW.same {m : List (Nat × Nat)} {ks : List Nat} {c : Nat} (h : VW m ks c) (hn : ks.Nodup) : m.length = ks.length := by
  refine Nat.le_antisymm h.few ?_
  have := nodup_sub ks _ hn (fun k hk => (h.key k).2 hk)
  rwa [List.length_map] at this
def putV (m : List (Nat × Nat)) (f u : Nat) : List (Nat × Nat) := (f, u) :: m.filter (fun p => p.1 != f)
theorem putV_mem {m : List (Nat × Nat)} {f u : Nat} (p : Nat × Nat) : p ∈ putV m f u ↔ p = (f, u) ∨ (p ∈ m ∧ p.1 ≠ f) := by
  unfold putV; rw [List.mem_cons, List.mem_filter]; simp
theorem putV_one {m : List (Nat × Nat)} {f u : Nat} (h : (m.map (·.1)).Nodup) : ((putV m f u).map (·.1)).Nodup := by
  unfold putV
  rw [List.map_cons, List.nodup_cons]
  refine ⟨fun q => ?_, List.Pairwise.sublist (List.Sublist.map _ List.filter_sublist) h⟩
  obtain ⟨x, hx, e⟩ := List.mem_map.1 q
  have := (List.mem_filter.1 hx).2
  simp [e] at this
theorem VW.put {m : List (Nat × Nat)} {ks ks' : List Nat} {c : Nat} (h : VW m ks c) (f u : Nat) (h1 : 1 ≤ u) (hu : u ≤ c + 1) (hk : ∀ k, k ∈ ks' ↔ k = f ∨ k ∈ ks) : VW (putV m f u) ks' (c + 1) := by
  refine ⟨fun k => ?_, putV_one h.one, fun p hp => ?_⟩
  · rw [hk, ← h.key, List.mem_map, List.mem_map]
    constructor
    · rintro ⟨p, hp, rfl⟩
      rcases (putV_mem p).1 hp with rfl | ⟨q, -⟩
      · exact Or.inl rfl
      · exact Or.inr ⟨p, q, rfl⟩
    · rintro (rfl | ⟨p, hp, rfl⟩)
      · exact ⟨(k, u), (putV_mem _).2 (Or.inl rfl), rfl⟩
      · by_cases e : p.1 = f
        · exact ⟨(f, u), (putV_mem _).2 (Or.inl rfl), e.symm⟩
        · exact ⟨p, (putV_mem _).2 (Or.inr ⟨hp, e⟩), rfl⟩
  · rcases (putV_mem p).1 hp with rfl | ⟨q, -⟩
    · exact ⟨h1, hu⟩
    · have := h.val p q; omega
/-- An arena beside block db, all of it ahead of block n. -/
structure Bs (p most db n : Nat) (ns : List Nd) (w : World) : Prop where
  dlt : db < n
  nle : n ≤ w.heap.size
  arn : ∃ a : AL, a.p = p ∧ Ar w a most ns ∧ WF ns ∧ ∀ k, a.has k → k < n ∧ k ≠ db
section
variable {p most db n : Nat} {ns : List Nd} {w w' : World}
theorem Bs.sta (h : Bs p most db n ns w) : Sta (fun k => k = db) p w most ns := by
  obtain ⟨h1, h2, ⟨a, a1, a2, a3, a4⟩⟩ := h
  exact ⟨a, a1, a2, a3, fun k hk q => (a4 k hk).2 q, fun k hk => by omega⟩
theorem Bs.here (h : Bs p most db n ns w) : Bs p most db w.heap.size ns w := by
  obtain ⟨h1, h2, ⟨a, a1, a2, a3, a4⟩⟩ := h
  exact ⟨by omega, Nat.le_refl _, ⟨a, a1, a2, a3, fun k hk => ⟨by have := (a4 k hk).1; omega, (a4 k hk).2⟩⟩⟩
theorem Bs.kept (h : Bs p most db n ns w) (k : Keep (fun i => i = db) w w') : Bs p most db n ns w' := by
  obtain ⟨h1, h2, ⟨a, a1, a2, a3, a4⟩⟩ := h
  exact ⟨h1, by have := k.size; omega, ⟨a, a1, a2.keep k (fun i hi e => (a4 i hi).2 e), a3, a4⟩⟩
theorem Bs.on (h : Bs p most db n ns w) (hb : Below w.heap.size w w') : Bs p most db n ns w' := h.kept (Keep.of hb)
theorem Bs.of {Z : Nat → Prop} {w1 : World} (h : Sta Z p w most ns) (hb : Below w.heap.size w w1) : Bs p most w1.heap.size (w1.heap.size + 1) ns (w1.alloc (.map #[] 0)) := by
  obtain ⟨a, h1, h2, h3, h4, h5⟩ := h.on hb
  have a1 := h2.pl
  have a2 := h2.ql
  have a3 := h2.ml
  refine ⟨by omega, by rw [World.size_alloc]; exact Nat.le_refl _, ⟨a, h1, h2.on (bel_al (Below.refl _ _) _), h3, fun k hk => ?_⟩⟩
  rcases hk with e | e | e <;> exact ⟨by omega, by omega⟩
end
/-- The map of what was met. -/
def Met (w : World) (db : Nat) (ks : List Nat) (c : Nat) : Prop := ∃ m, MapV Try.prog 3 ikv ikv w db m ∧ VW m ks c
theorem Met.on {w w' : World} {db : Nat} {ks : List Nat} {c : Nat} (h : Met w db ks c) (hb : Below w.heap.size w w') : Met w' db ks c := by
  obtain ⟨m, h1, h2⟩ := h
  exact ⟨m, h1.on hb, h2⟩
theorem hasB_lt {ns : List Nd} {f : Nat} (hf : f < ns.length) : hasB ns.length (f : Nat) = true := by unfold hasB; simp; omega
theorem svisit_f (p most db : Nat) (ns : List Nd) (hlen : ns.length ≤ 262144) : ∀ (k : Nat) (ks : List Nat) (c f : Nat) (w : World), f < k → f < ns.length → Bs p most db w.heap.size ns w → Met w db ks c → ks.Nodup → (∀ x ∈ ks, x < ns.length) → c + 1 + 2 * (ns.length - ks.length) ≤ 100000000 →
    Calls Try.prog 54 #[.pointer (some ⟨p, 0, none⟩), .int .i64 (f : Nat), .map (some db)] w fun e w' => e = .returned (.tuple #[]) ∧ Met w' db (viF ns k ks c f).1 (viF ns k ks c f).2 ∧ Keep (fun i => i = db) w w' := by
  intro k
  induction k with
  | zero => intro ks c f w h; omega
  | succ k ih =>
    intro ks c f w hk hf hB hM hn hx hc
    rw [viF_succ]
    by_cases q : f ≤ 1
    · rw [if_pos q]
      refine (visit_end _ _ _ (by omega) w).mono ?_
      rintro e w' ⟨rfl, rfl⟩
      exact ⟨rfl, hM, Keep.refl _ _⟩
    rw [if_neg q]
    have q' : ¬ (f : Int) ≤ 1 := by omega
    have hkey := keyI f (by omega)
    have CH := sHas hB.sta f
    rw [hasB_lt hf] at CH
    obtain ⟨m, hm, hv⟩ := hM
    have hfew := hv.few
    have hfk := few_keys hn hx
    by_cases r : f ∈ ks
    · rw [if_pos r]
      obtain ⟨⟨f', u⟩, hp, rfl⟩ := List.mem_map.1 ((hv.key f).2 r)
      simp only at hf hk r hkey CH q q'
      have hu := hv.val _ hp
      simp only at hu
      obtain ⟨w', k1, k2, k3⟩ := mapV_store (m' := putV m f' (u + 1)) keyedInt Try.underlying101 ikv_inj hm (v := u + 1) hkey (by unfold maxLen; omega) (fun p => putV_mem p)
      have l1 := mapV_some keyedInt Try.underlying101 zeroInt ikv_inj false hm hkey hp hv.one
      have l2 := mapV_some keyedInt Try.underlying101 zeroInt ikv_inj false k2 hkey ((putV_mem _).2 (Or.inl rfl)) (putV_one hv.one)
      refine (visit_known _ f' db u (fun w => Met w db ks (c + 1)) w q' (Lib.hid CH) (by omega) (by omega) (Lib.hid ⟨l1, w', k1, ⟨_, k2, hv.put f' (u + 1) (by omega) (by omega) (fun k => ⟨Or.inr, fun s => s.elim (fun e => by rw [e]; exact r) id⟩)⟩, k3, l2⟩)).mono ?_
      rintro e w2 ⟨rfl, h1, h2⟩
      exact ⟨rfl, h1, (Keep.refl _ _).only h2 (fun _ => rfl)⟩
    rw [if_neg r]
    have hw := hB.sta.wf
    obtain ⟨a, b, -⟩ := hw.parts (by omega) hf
    have hn1 : (f :: ks).Nodup := List.nodup_cons.2 ⟨r, hn⟩
    have hx1 : ∀ x ∈ f :: ks, x < ns.length := fun x hx' => by rcases List.mem_cons.1 hx' with rfl | hx'; exact hf; exact hx x hx'
    obtain ⟨A1, A2, A3, A4⟩ := viF_len hw k (f :: ks) (c + 1) (ns.getD f bot).l (by omega) hx1 hn1
    obtain ⟨R, hR⟩ : ∃ R, viF ns k (f :: ks) (c + 1) (ns.getD f bot).l = R := ⟨_, rfl⟩
    rw [hR] at A1 A2 A3 A4 ⊢
    have A5 := few_keys A2 A1
    have A6 := few_keys hn1 hx1
    simp only [List.length_cons] at A3 A4 A6
    obtain ⟨w', k1, k2, k3⟩ := mapV_store (m' := putV m f 1) keyedInt Try.underlying101 ikv_inj hm (v := 1) hkey (by unfold maxLen; omega) (fun p => putV_mem p)
    have l1 := mapV_none keyedInt Try.underlying101 zeroInt ikv_inj false hm hkey (fun s => r ((hv.key f).1 s))
    have l2 := mapV_some keyedInt Try.underlying101 zeroInt ikv_inj false k2 hkey ((putV_mem _).2 (Or.inl rfl)) (putV_one hv.one)
    have hv1 := hv.put (ks' := f :: ks) f 1 (by omega) (by omega) (fun k => List.mem_cons)
    refine (visit_new _ f (lv ns f) (ns.getD f bot).l (ns.getD f bot).h db (fun w' => Bs p most db w.heap.size ns w' ∧ Met w' db (f :: ks) (c + 1)) (fun w' => Bs p most db w.heap.size ns w' ∧ Met w' db R.1 R.2) (fun w' => Met w' db (viF ns k R.1 R.2 (ns.getD f bot).h).1 (viF ns k R.1 R.2 (ns.getD f bot).h).2) w q'
      (Lib.hid (fun _ _ h hb => ⟨h.1.on hb, h.2.on hb⟩)) (Lib.hid (fun _ _ h hb => ⟨h.1.on hb, h.2.on hb⟩)) (Lib.hid CH) (Lib.hid ⟨l1, w', k1, ⟨hB.kept ((Keep.refl _ _).only k3 (fun _ => rfl)), _, k2, hv1⟩, k3, l2⟩)
      (Lib.hid (fun w h => slevel h.1.sta f hf)) (Lib.hid (fun w2 h => ?_)) (Lib.hid (fun w2 h => ?_)) (Lib.hid (fun w2 h => ?_)))
    · have := sparts h.1.sta f (lv ns f) hf
      rw [ptF_at rfl] at this
      exact this
    · have := ih (f :: ks) (c + 1) (ns.getD f bot).l w2 (by omega) (by omega) h.1.here h.2 hn1 hx1 (by simp only [List.length_cons]; omega)
      rw [hR] at this
      refine this.mono ?_
      rintro e w3 ⟨rfl, h1, h2⟩
      exact ⟨rfl, ⟨h.1.kept h2, h1⟩, h2⟩
    · exact ih R.1 R.2 (ns.getD f bot).h w2 (by omega) (by omega) h.1.here h.2 A2 A1 (by omega)
/-- Numbers of which each is a set's, or none. -/
theorem sNodes {Z : Nat → Prop} {p most : Nat} {W : World} {ns : List Nd} (h : Sta Z p W most ns) (fs : List Nat) (hf : ∀ f ∈ fs, f < ns.length) (hl : fs.length ≤ 10) (b cap : Nat)
    (hr : ∀ i, i < fs.length → W.cell? ⟨b, i, none⟩ = some (.int .i64 ((fs.getD i 0 : Nat) : Int))) (hb : 0 < fs.length → b < W.heap.size) :
    ∃ N, (∃ m, Mt ns fs m ∧ m.length = N) ∧ Calls Try.prog 27 #[.pointer (some ⟨p, 0, none⟩), .slice (some ⟨b, 0, none⟩) fs.length cap] W fun e w' => e = .returned (.int .i64 (N : Nat)) ∧ Below W.heap.size W w' := by
  have hw := h.wf
  have hlen := h.len
  obtain ⟨S, hS⟩ : ∃ S : Nat → List Nat × Nat, S = fun k => Nat.rec ([], 0) (fun k r => viF ns (fs.getD k 0 + 1) r.1 r.2 (fs.getD k 0)) k := ⟨_, rfl⟩
  have S0 : S 0 = ([], 0) := by rw [hS]; rfl
  have S1 : ∀ k, S (k + 1) = viF ns (fs.getD k 0 + 1) (S k).1 (S k).2 (fs.getD k 0) := fun k => by rw [hS]
  have gd : ∀ k, k < fs.length → fs.getD k 0 ∈ fs ∧ fs.take (k + 1) = fs.take k ++ [fs.getD k 0] := fun k hk => by
    have e : fs.getD k 0 = fs[k] := by rw [List.getD_eq_getElem?_getD, List.getElem?_eq_getElem hk]; rfl
    rw [e]; exact ⟨List.getElem_mem hk, List.take_succ_eq_append_getElem hk⟩
  have SM : ∀ k, k ≤ fs.length → Mt ns (fs.take k) (S k).1 ∧ (∀ x ∈ (S k).1, x < ns.length) ∧ (S k).2 ≤ k + 2 * (S k).1.length := fun k => by
    induction k with
    | zero => intro _; rw [S0, List.take_zero]; exact ⟨Mt.nil ns, fun x hx => (by cases hx), by simp⟩
    | succ k ih =>
      intro hk
      obtain ⟨h1, h2, h3⟩ := ih (by omega)
      obtain ⟨g1, g2⟩ := gd k (by omega)
      rw [S1, g2]
      obtain ⟨B1, B2, B3, B4⟩ := viF_len hw (fs.getD k 0 + 1) (S k).1 (S k).2 (fs.getD k 0) (hf _ g1) h2 h1.one
      exact ⟨h1.step hw (hf _ g1) _ _ (by omega), B1, by omega⟩
  refine ⟨(S fs.length).1.length, ⟨_, by have := (SM fs.length (Nat.le_refl _)).1; rw [List.take_length] at this; exact this, rfl⟩, ?_⟩
  refine nodes_core _ (fun i => ((fs.getD i 0 : Nat) : Int)) fs.length b cap _ (by omega) (fun db k w => Bs p most db (db + 1) ns w ∧ Met w db (S k).1 (S k).2) W (Lib.hid hr) (Lib.hid hb) (Lib.hid (fun w1 hb => ?_)) (Lib.hid (fun db k w hk hq => ?_)) (Lib.hid (fun db w hq ty => ?_))
  · rw [S0]
    exact ⟨Bs.of h hb, [], MapV.made w1, ⟨fun k => by simp, List.nodup_nil, fun p hp => (by cases hp)⟩⟩
  · obtain ⟨h1, h2, h3⟩ := SM k (by omega)
    obtain ⟨g1, g2⟩ := gd k hk
    have hfew := few_keys h1.one h2
    rw [S1]
    refine (svisit_f p most db ns hlen (fs.getD k 0 + 1) (S k).1 (S k).2 (fs.getD k 0) w (by omega) (hf _ g1) hq.1.here hq.2 h1.one h2 (by omega)).mono ?_
    rintro e w2 ⟨rfl, k1, k2⟩
    exact ⟨rfl, ⟨hq.1.kept k2, k1⟩, k2⟩
  · obtain ⟨m, hm, hv⟩ := hq.2
    have := mapV_len Try.underlying101 ikv_inj hm hv.one ty
    rw [hv.same (SM fs.length (Nat.le_refl _)).1.one] at this
    exact this
end Go.Proofs.Yteiemcnjcdjglaa
/- Nodes of sets, by what is reached; numbers that are no set's. -/
namespace Go.Proofs.Yteiemcnjcdjglaa
open Go.RowKit
set_option linter.unusedVariables false
set_option linter.unusedSimpArgs false

theorem mt_more {ns : List Nd} (h : WF ns) : ∀ (fs pre m : List Nat), Mt ns pre m → (∀ f ∈ fs, f < ns.length) → ∃ m', Mt ns (pre ++ fs) m'
  | [], pre, m, hm, _ => ⟨m, by rw [List.append_nil]; exact hm⟩
  | f :: r, pre, m, hm, hf => by
    obtain ⟨m', hm'⟩ := mt_more h r (pre ++ [f]) _ (hm.step h (hf f (List.mem_cons_self ..)) (f + 1) 0 (by omega)) (fun x hx => hf x (List.mem_cons_of_mem _ hx))
    exact ⟨m', by rw [List.append_assoc] at hm'; exact hm'⟩
theorem mt_any {ns : List Nd} (h : WF ns) (fs : List Nat) (hf : ∀ f ∈ fs, f < ns.length) : ∃ m, Mt ns fs m := mt_more h fs [] [] (Mt.nil ns) hf
section
variable {Z : Nat → Prop} {p most : Nat} {W : World} {ns : List Nd}
/-- Nodes of one set, of two: the sets stand in a new row. -/
theorem sNodes1 (h : Sta Z p W most ns) {f : Nat} (hf : f < ns.length) {m : List Nat} (hm : Mt ns [f] m) (cap : Nat) :
    Calls Try.prog 27 #[.pointer (some ⟨p, 0, none⟩), .slice (some ⟨W.heap.size, 0, none⟩) 1 cap] (W.alloc (.cells #[.int .i64 (f : Nat)] 3)) fun e w' => e = .returned (.int .i64 (m.length : Nat)) ∧ Below W.heap.size W w' := by
  obtain ⟨N, ⟨m', h1, rfl⟩, hc⟩ := sNodes (h.on (bel_al (Below.refl _ _) (.cells #[.int .i64 (f : Nat)] 3))) [f] (fun x hx => by rw [List.mem_singleton.1 hx]; exact hf) (by simp) W.heap.size cap (fun i hi => by
    have : i = 0 := by simpa using hi
    subst this
    simp [go_sem]) (fun _ => by simp)
  rw [h1.same hm (fun _ => Iff.rfl)] at hc
  exact hc.mono (fun e w' q => ⟨q.1, bel_on' (bel_al (Below.refl _ _) _) q.2⟩)
theorem sNodes2 (h : Sta Z p W most ns) {f g : Nat} (hf : f < ns.length) (hg : g < ns.length) {m : List Nat} (hm : Mt ns [f, g] m) (cap : Nat) :
    Calls Try.prog 27 #[.pointer (some ⟨p, 0, none⟩), .slice (some ⟨W.heap.size, 0, none⟩) 2 cap] (W.alloc (.cells #[.int .i64 (f : Nat), .int .i64 (g : Nat)] 3)) fun e w' => e = .returned (.int .i64 (m.length : Nat)) ∧ Below W.heap.size W w' := by
  obtain ⟨N, ⟨m', h1, rfl⟩, hc⟩ := sNodes (h.on (bel_al (Below.refl _ _) (.cells #[.int .i64 (f : Nat), .int .i64 (g : Nat)] 3))) [f, g] (fun x hx => by
    rcases List.mem_cons.1 hx with rfl | hx
    · exact hf
    · rw [List.mem_singleton.1 hx]; exact hg) (by simp) W.heap.size cap (fun i hi => by
    have : i = 0 ∨ i = 1 := by simp at hi; omega
    rcases this with rfl | rfl <;> simp [go_sem]) (fun _ => by simp)
  rw [h1.same hm (fun _ => Iff.rfl)] at hc
  exact hc.mono (fun e w' q => ⟨q.1, bel_on' (bel_al (Below.refl _ _) _) q.2⟩)
/-- Of a number that visits pass by: none. -/
theorem nodes_zero (p : Value) (f : Int) (W : World) (cap : Nat) (HV : ∀ w m, Below W.heap.size W w → Calls Try.prog 54 #[p, .int .i64 f, m] w fun e w' => e = .returned (.tuple #[]) ∧ w = w') :
    Calls Try.prog 27 #[p, .slice (some ⟨W.heap.size, 0, none⟩) 1 cap] (W.alloc (.cells #[.int .i64 f] 3)) fun e w' => e = .returned (.int .i64 0) ∧ Below W.heap.size W w' := by
  refine (nodes_core p (fun _ => f) 1 W.heap.size cap 0 (by omega) (fun db k w => Met w db [] 0 ∧ Below W.heap.size W w) (W.alloc (.cells #[.int .i64 f] 3)) (Lib.hid (fun i hi => ?_)) (Lib.hid (fun _ => by simp)) (Lib.hid (fun w1 hb => ?_)) (Lib.hid (fun db k w hk hq => ?_)) (Lib.hid (fun db w hq ty => ?_))).mono (fun e w' q => ⟨q.1, bel_on' (bel_al (Below.refl _ _) _) q.2⟩)
  · have : i = 0 := by omega
    subst this
    simp [go_sem]
  · exact ⟨⟨[], MapV.made w1, ⟨fun k => by simp, List.nodup_nil, fun p hp => (by cases hp)⟩⟩, bel_al (bel_on' (bel_al (Below.refl _ _) _) hb) _⟩
  · refine (HV w _ hq.2).mono ?_
    rintro e w' ⟨rfl, rfl⟩
    exact ⟨rfl, hq, Keep.refl _ _⟩
  · obtain ⟨m, hm, hv⟩ := hq.1
    have := mapV_len Try.underlying101 ikv_inj hm hv.one ty
    rw [hv.same List.nodup_nil] at this
    exact this
theorem sNodes_not (h : Sta Z p W most ns) (f : Int) (hf : hasB ns.length f = false) (cap : Nat) :
    Calls Try.prog 27 #[.pointer (some ⟨p, 0, none⟩), .slice (some ⟨W.heap.size, 0, none⟩) 1 cap] (W.alloc (.cells #[.int .i64 f] 3)) fun e w' => e = .returned (.int .i64 0) ∧ Below W.heap.size W w' :=
  nodes_zero _ f W cap (fun w m hb => visit_not _ m f w (Lib.hid (by have := sHas (h.on hb) f; rw [hf] at this; exact this)))
theorem nodes_nil (p : Value) (W : World) (cap : Nat) :
    Calls Try.prog 27 #[p, .slice (some ⟨W.heap.size, 0, none⟩) 1 cap] (W.alloc (.cells #[.int .i64 1] 3)) fun e w' => e = .returned (.int .i64 0) ∧ Below W.heap.size W w' :=
  nodes_zero _ 1 W cap (fun w m _ => visit_end _ m 1 (by omega) w)
end
set_option maxRecDepth 100000 in
theorem within_no (p : Value) (f g : Int) (x : Bool) (W : World) (C1 : Hid (Calls Try.prog 29 #[p, .int .i64 f] W fun e w' => e = .returned (.bool x) ∧ W = w')) (C2 : Hid (x = true → Calls Try.prog 29 #[p, .int .i64 g] W fun e w' => e = .returned (.bool false) ∧ W = w')) :
    Calls Try.prog 22 #[p, .int .i64 f, .int .i64 g] W fun e w' => e = .returned (.bool false) ∧ W = w' := by
  go_enter Try.func22, Try.ntmps22
  go_wp2_with fail
  refine C1.out.mono ?_
  rintro e w' ⟨rfl, rfl⟩
  cases x with
  | false =>
    clear C1 C2
    go_wp2
    go_ret
    exact ⟨rfl, rfl⟩
  | true =>
    have C3 := Lib.hid (C2.out rfl)
    clear C1 C2
    go_wp2_with fail
    refine C3.out.mono ?_
    rintro e w' ⟨rfl, rfl⟩
    clear C3
    go_wp2
    go_ret
    exact ⟨rfl, rfl⟩
/-- A number that is no set's, on either side. -/
theorem sWithin_not {Z : Nat → Prop} {p most : Nat} {W : World} {ns : List Nd} (h : Sta Z p W most ns) (f g : Int) (hf : hasB ns.length f = true → hasB ns.length g = false) :
    Calls Try.prog 22 #[.pointer (some ⟨p, 0, none⟩), .int .i64 f, .int .i64 g] W fun e w' => e = .returned (.bool false) ∧ W = w' :=
  within_no _ f g _ W (Lib.hid (sHas h f)) (Lib.hid (fun q => by have := sHas h g; rw [hf q] at this; exact this))
end Go.Proofs.Yteiemcnjcdjglaa
/- SatNodes's walk (typed by gen/mkst.py). -/
namespace Go.Proofs.Yteiemcnjcdjglaa
open Go.RowKit Wd
set_option linter.unusedVariables false
set_option linter.unusedSimpArgs false

set_option maxRecDepth 100000 in
set_option maxHeartbeats 8000000 in
theorem snodes_any (L : List Ex) (la : Option Addr) (lc : Nat) (fq : Int) (W : World) (hL : Rw W la (L.flatMap Ex.cells)) (hlen : L.length ≤ maxLen) (hrng : ∀ x ∈ L, -9223372036854775808 ≤ x.v ∧ x.v ≤ 9223372036854775807) :
    Calls Try.prog 6 #[.slice la L.length lc, .int .i64 fq] W fun e w' => e = .returned (.bool true) ∧ Below W.heap.size W w' := by
  have CA := Lib.hid (fun w => sawake_any w)
  have CN := Lib.hid (fun w => sNew 262144 (by omega) (by omega) w)
  have CM := Lib.hid (fun (Z : Nat → Prop) (p : Nat) (w : World) (h : Sta Z p w 262144 [bot, top]) (hr : Rw w la (L.flatMap Ex.cells)) (hZ : ∀ b off, la = some ⟨b, off, none⟩ → 0 < L.length → Z b) (lt : Lt L) => make_big (lc := lc) h hr hZ lt)
  have CL := Lib.hid (fun (w : World) (hb : Below W.heap.size W w) => light_any L la lc w (hL.on hb) hlen hrng)
  have HL0 := Lib.hid hL
  obtain ⟨n, hn⟩ : ∃ n, L.length = n := ⟨_, rfl⟩
  rw [hn] at CL CM hlen ⊢
  have HN := Lib.hid hn
  clear hn hL hrng
  go_enter Try.func6, Try.ntmps6

  go_wp2_with fail
  refine (CL.out W (Below.refl _ _)).mono ?_
  rintro e w1 ⟨r, rfl, hr, hb⟩
  have B1 := Lib.hid (hb)
  clear hb CL
  cases r with
  | false =>
    clear hr
    go_wp2_with fail
    refine (CA.out _).mono ?_
    rintro e w2 ⟨rfl, hb⟩
    have B2 := Lib.hid (bel_on' B1.out hb)
    clear hb
    go_wp2
    go_ret
    exact ⟨rfl, B2.out⟩
  | true =>
    have LT := Lib.hid (hr rfl)
    clear hr
    have h60 : n ≤ 60 := by rw [← HN.out]; exact LT.out.len
    by_cases hfew : n < 2
    · have hfew' : (n : Int) < 2 := by omega
      go_wp2_with fail
      refine (CA.out _).mono ?_
      rintro e w2 ⟨rfl, hb⟩
      have B2 := Lib.hid (bel_on' B1.out hb)
      clear hb
      go_wp2
      go_ret
      exact ⟨rfl, B2.out⟩
    · have hfew' : ¬ (n : Int) < 2 := by first | omega | (rw [beq_eq_false_iff_ne]; omega)
      go_wp2_with fail
      refine (CN.out _).mono ?_
      rintro e w2 ⟨p, rfl, hS, hb⟩
      have S2 := Lib.hid hS
      have B2 := Lib.hid (bel_on' B1.out hb)
      clear hS CN
      have CM2 := Lib.hid (CM.out _ p w2 S2.out (HL0.out.on B2.out) (fun b off e hl => by show b < w1.heap.size; have := rw_z HL0.out b off e (by rw [HN.out]; exact hl); have := B1.out.size; omega) LT.out)
      clear CM S2
      go_wp2_with fail
      refine CM2.out.mono ?_
      rintro e w3 ⟨v, o, B, ns, rfl, hS, hH, hR, hF⟩
      have hon : o.length = n := by rw [hF.len]; exact HN.out
      obtain ⟨g, cap, hv, hg⟩ := row_form hR (by omega)
      rw [hon] at hg hv
      have B3 := Lib.hid (B2.out.trans (hH.below B2.out.size (fun k hk => by show k < w1.heap.size; have := B1.out.size; omega)))
      obtain ⟨Z, hZ⟩ : ∃ Z, Zv (fun k => k < w1.heap.size) v = Z := ⟨_, rfl⟩
      have hzl : ∀ k, k < w1.heap.size → Z k := by rw [← hZ]; exact Zv_lt (fun k hk => hk)
      have hzg : Z g := by rw [← hZ, hv]; exact Or.inr rfl
      rw [hZ] at hS
      have HZL := Lib.hid (And.intro hzl hzg)
      have HF := Lib.hid hF
      have HG := Lib.hid hg
      have S3 := Lib.hid hS
      have WN := Lib.hid hS.wf
      subst hv
      clear CM2 hR hZ hzl hzg hH hF hg hS hon hb B2
      obtain ⟨m, hm⟩ : ∃ m, n = m + 1 := ⟨n - 1, by omega⟩
      have hw1 : IntKind.i64.wrap ((n : Int) - 1) = ((m : Nat) : Int) := by rw [IntKind.wrap_i64]; omega
      have hmn : m < n := by omega
      have hn0 : 0 < n := by omega
      have Ff := Lib.hid (HF.out.at_ (i := m) (by rw [HN.out]; exact hmn))
      have Fh := Lib.hid (HF.out.at_ (i := 0) (by rw [HN.out]; exact hn0))
      have g_1 := HG.out m hmn
      have g_0 := HG.out 0 hn0
      obtain ⟨f, hf⟩ : ∃ f, o.getD m 0 = f := ⟨_, rfl⟩
      obtain ⟨t, ht⟩ : ∃ f, o.getD 0 0 = f := ⟨_, rfl⟩
      rw [hf] at Ff g_1
      rw [ht] at Fh g_0
      have LF := Lib.hid (show f < ns.length from Ff.out.1)
      have LH := Lib.hid (show t < ns.length from Fh.out.1)
      have hl3 := HF.out.most
      clear hf ht HF HG hm Ff Fh
      go_upto_region 9 with fail
      refine wp_region_noPanic ?_
      refine wp_region_along (S := fun w' => w' = w3.drew) ([(0, true), (1, true), (2, true), (3, true), (4, true), (5, true), (6, true), (7, true), (8, true), (9, true), (10, true)]) (by kernel_rfl) (by as_aux_lemma => kernel_rfl) (by kernel_rfl) (by kernel_rfl) (by as_aux_lemma => kernel_rfl) (by as_aux_lemma => kernel_rfl) (fun _ _ _ _ _ h => h) rfl (fun hH => ?_)
      simp only [stepsOf, pickOp]
      iterate 11 (first | (refine along_skip (by rfl) ?_; try simp only [Act.put, List.setIfInBounds_toArray, List.set_cons_zero, List.set_cons_succ]) | (refine along_pure ?_ (by rfl) (fun w hSw => ?_) ?_; rotate_left; (obtain rfl := hSw; go_simp; try with_reducible rfl); try simp only [Act.put, List.setIfInBounds_toArray, List.set_cons_zero, List.set_cons_succ]))
      refine along_end (NoPanic.normal ?_)
      clear hH g_0 g_1
      obtain ⟨w4, hw4⟩ : ∃ x, x = w3.drew := ⟨_, rfl⟩
      have S4 := Lib.hid (show Sta Z p w4 262144 ns by rw [hw4]; exact S3.out.on (Below.refl _ _).drew)
      have B4 := Lib.hid (show Below W.heap.size W w4 by rw [hw4]; exact bel_on' B3.out (Below.refl _ _).drew)
      rw [← hw4]
      clear hw4 S3 B3
      obtain ⟨mf, hmf⟩ := mt_any WN.out [f] (fun x hx => by rw [List.mem_singleton.1 hx]; exact LF.out)
      obtain ⟨mt, hmt⟩ := mt_any WN.out [t] (fun x hx => by rw [List.mem_singleton.1 hx]; exact LH.out)
      obtain ⟨mb, hmb⟩ := mt_any WN.out [f, t] (fun x hx => by
        rcases List.mem_cons.1 hx with rfl | hx
        · exact LF.out
        · rw [List.mem_singleton.1 hx]; exact LH.out)
      obtain ⟨m2, hm2⟩ := mt_any WN.out [f, f] (fun x hx => by
        rcases List.mem_cons.1 hx with rfl | hx
        · exact LF.out
        · rw [List.mem_singleton.1 hx]; exact LF.out)
      have N1 := Lib.hid (fun w (h : Sta Z p w 262144 ns) (cap : Nat) => sNodes1 h LF.out hmf cap)
      have N2 := Lib.hid (fun w (h : Sta Z p w 262144 ns) (cap : Nat) => sNodes1 h LH.out hmt cap)
      have N3 := Lib.hid (fun w (h : Sta Z p w 262144 ns) (cap : Nat) => sNodes2 h LF.out LH.out hmb cap)
      have N4 := Lib.hid (fun w (h : Sta Z p w 262144 ns) (cap : Nat) => sNodes2 h LF.out LF.out hm2 cap)
      have e4 : m2.length = mf.length := hm2.same hmf (fun x => by simp)
      have r1 := hmf.room WN.out (fun x hx => by rw [List.mem_singleton.1 hx]; exact LF.out)
      have r2 := hmt.room WN.out (fun x hx => by rw [List.mem_singleton.1 hx]; exact LH.out)
      have r3 := hmf.both hmt hmb
      have r4 := hmf.le hmb (fun x hx => by simp at hx ⊢; exact Or.inl hx)
      have r5 := hmt.le hmb (fun x hx => by simp at hx ⊢; exact Or.inr hx)
      have r6 := hmf.none WN.out
      rw [e4] at N4
      clear hmf hmt hmb hm2 e4
      generalize mf.length = a at *
      generalize mt.length = b at *
      generalize mb.length = c at *
      obtain ⟨k, hk⟩ : ∃ k, ns.length = k := ⟨_, rfl⟩
      have CLn := Lib.hid (fun w (h : Sta Z p w 262144 ns) => sLen h)
      rw [hk] at CLn r1 r2 hl3
      go_wp2_with fail
      refine (N1.out w4 S4.out _).mono ?_
      rintro e w5 ⟨rfl, hb⟩
      have S5 := Lib.hid (S4.out.on hb)
      have B5 := Lib.hid (bel_on' B4.out hb)
      clear hb S4 B4
      go_wp2_with fail
      refine (N2.out w5 S5.out _).mono ?_
      rintro e w6 ⟨rfl, hb⟩
      have S6 := Lib.hid (S5.out.on hb)
      have B6 := Lib.hid (bel_on' B5.out hb)
      clear hb S5 B5
      go_wp2_with fail
      refine (N3.out w6 S6.out _).mono ?_
      rintro e w7 ⟨rfl, hb⟩
      have S7 := Lib.hid (S6.out.on hb)
      have B7 := Lib.hid (bel_on' B6.out hb)
      clear hb S6 B6
      clear N1 N2 N3
      have i1 : ¬ (a : Int) + (b : Int) < (c : Int) := by omega
      have i2a : ¬ (c : Int) < (a : Int) := by omega
      have i2b : ¬ (c : Int) < (b : Int) := by omega
      have i3 : ¬ (k : Int) - 2 < (a : Int) := by omega
      have fin : ((a : Int) == 0) = decide ((f : Int) ≤ 1) := by
        by_cases q : f ≤ 1
        · have : a = 0 := r6.2 q
          subst this
          simp; omega
        · have : a ≠ 0 := fun e => q (r6.1 e)
          have e1 : ((a : Int) == 0) = false := beq_eq_false_iff_ne.2 (by omega)
          rw [e1]
          simp; omega
      have FIN := Lib.hid fin
      clear fin r6
      by_cases hab : (a : Int) < (b : Int)
      · skip
        go_wp2_with fail
        refine (CLn.out w7 S7.out).mono ?_
        rintro e w' ⟨rfl, rfl⟩
        have fin := FIN.out
        go_wp2_with fail
        refine (N4.out w7 S7.out _).mono ?_
        rintro e w8 ⟨rfl, hb⟩
        have S8 := Lib.hid (S7.out.on hb)
        have B8 := Lib.hid (bel_on' B7.out hb)
        clear CLn N4 fin
        clear hb S7 B7
        have CH := Lib.hid (sHas S8.out fq)
        go_wp2_with fail
        refine CH.out.mono ?_
        rintro e w' ⟨rfl, rfl⟩
        clear CH
        cases hq : hasB ns.length fq with
        | true =>
          go_wp2_with fail
          refine (CA.out _).mono ?_
          rintro e w9 ⟨rfl, hb⟩
          have B9 := Lib.hid (bel_on' B8.out hb)
          clear hb
          go_wp2
          go_ret
          exact ⟨rfl, B9.out⟩
        | false =>
          have HQ := Lib.hid hq
          clear hq
          go_wp2_with fail
          refine (sLeast_none S8.out fq (fun e => by rw [HQ.out] at e; cases e)).mono ?_
          rintro e w9 ⟨rfl, hb⟩
          have S9 := Lib.hid (S8.out.on hb)
          have B9 := Lib.hid (bel_on' B8.out hb)
          clear hb S8 B8
          go_upto_region 16 with fail
          refine at_code (S := fun w => Below w9.heap.size w9 w) (bel_al (Below.refl _ _) _) (fun w10 hb => ?_)
          have S10 := Lib.hid (S9.out.on hb)
          have B10 := Lib.hid (bel_on' B9.out hb)
          clear hb S9 B9
          go_wp2_with fail
          refine (CA.out w10).mono ?_
          rintro e w11 ⟨rfl, hb⟩
          have S11 := Lib.hid (S10.out.on hb)
          have B11 := Lib.hid (bel_on' B10.out hb)
          clear hb S10 B10
          go_wp2_with fail
          refine (sNodes_not S11.out fq HQ.out _).mono ?_
          rintro e w12 ⟨rfl, hb⟩
          have S12 := Lib.hid (S11.out.on hb)
          have B12 := Lib.hid (bel_on' B11.out hb)
          clear hb S11 B11
          go_wp2_with fail
          refine (sCount_not S12.out fq HQ.out).mono ?_
          rintro e w13 ⟨rfl, hb⟩
          have S13 := Lib.hid (S12.out.on hb)
          have B13 := Lib.hid (bel_on' B12.out hb)
          clear hb S12 B12
          have CZ := Lib.hid (zero_any 0 w13)
          go_wp2_with fail
          refine (CZ.out).mono ?_
          rintro e w14 ⟨rfl, hb⟩
          have S14 := Lib.hid (S13.out.on hb)
          have B14 := Lib.hid (bel_on' B13.out hb)
          clear CZ
          clear hb S13 B13
          go_wp2_with fail
          refine (sWithin_not S14.out fq f (fun e => by rw [HQ.out] at e; cases e)).mono ?_
          rintro e w' ⟨rfl, rfl⟩
          go_wp2_with fail
          refine (sWithin_not S14.out f fq (fun _ => HQ.out)).mono ?_
          rintro e w' ⟨rfl, rfl⟩
          go_wp2_with fail
          refine (nodes_nil _ w14 _).mono ?_
          rintro e w15 ⟨rfl, hb⟩
          have S15 := Lib.hid (S14.out.on hb)
          have B15 := Lib.hid (bel_on' B14.out hb)
          clear hb S14 B14
          go_wp2
          go_ret
          exact ⟨rfl, B15.out⟩
      · skip
        go_wp2_with fail
        refine (CLn.out w7 S7.out).mono ?_
        rintro e w' ⟨rfl, rfl⟩
        have fin := FIN.out
        go_wp2_with fail
        refine (N4.out w7 S7.out _).mono ?_
        rintro e w8 ⟨rfl, hb⟩
        have S8 := Lib.hid (S7.out.on hb)
        have B8 := Lib.hid (bel_on' B7.out hb)
        clear CLn N4 fin
        clear hb S7 B7
        have CH := Lib.hid (sHas S8.out fq)
        go_wp2_with fail
        refine CH.out.mono ?_
        rintro e w' ⟨rfl, rfl⟩
        clear CH
        cases hq : hasB ns.length fq with
        | true =>
          go_wp2_with fail
          refine (CA.out _).mono ?_
          rintro e w9 ⟨rfl, hb⟩
          have B9 := Lib.hid (bel_on' B8.out hb)
          clear hb
          go_wp2
          go_ret
          exact ⟨rfl, B9.out⟩
        | false =>
          have HQ := Lib.hid hq
          clear hq
          go_wp2_with fail
          refine (sLeast_none S8.out fq (fun e => by rw [HQ.out] at e; cases e)).mono ?_
          rintro e w9 ⟨rfl, hb⟩
          have S9 := Lib.hid (S8.out.on hb)
          have B9 := Lib.hid (bel_on' B8.out hb)
          clear hb S8 B8
          go_upto_region 16 with fail
          refine at_code (S := fun w => Below w9.heap.size w9 w) (bel_al (Below.refl _ _) _) (fun w10 hb => ?_)
          have S10 := Lib.hid (S9.out.on hb)
          have B10 := Lib.hid (bel_on' B9.out hb)
          clear hb S9 B9
          go_wp2_with fail
          refine (CA.out w10).mono ?_
          rintro e w11 ⟨rfl, hb⟩
          have S11 := Lib.hid (S10.out.on hb)
          have B11 := Lib.hid (bel_on' B10.out hb)
          clear hb S10 B10
          go_wp2_with fail
          refine (sNodes_not S11.out fq HQ.out _).mono ?_
          rintro e w12 ⟨rfl, hb⟩
          have S12 := Lib.hid (S11.out.on hb)
          have B12 := Lib.hid (bel_on' B11.out hb)
          clear hb S11 B11
          go_wp2_with fail
          refine (sCount_not S12.out fq HQ.out).mono ?_
          rintro e w13 ⟨rfl, hb⟩
          have S13 := Lib.hid (S12.out.on hb)
          have B13 := Lib.hid (bel_on' B12.out hb)
          clear hb S12 B12
          have CZ := Lib.hid (zero_any 0 w13)
          go_wp2_with fail
          refine (CZ.out).mono ?_
          rintro e w14 ⟨rfl, hb⟩
          have S14 := Lib.hid (S13.out.on hb)
          have B14 := Lib.hid (bel_on' B13.out hb)
          clear CZ
          clear hb S13 B13
          go_wp2_with fail
          refine (sWithin_not S14.out fq f (fun e => by rw [HQ.out] at e; cases e)).mono ?_
          rintro e w' ⟨rfl, rfl⟩
          go_wp2_with fail
          refine (sWithin_not S14.out f fq (fun _ => HQ.out)).mono ?_
          rintro e w' ⟨rfl, rfl⟩
          go_wp2_with fail
          refine (nodes_nil _ w14 _).mono ?_
          rintro e w15 ⟨rfl, hb⟩
          have S15 := Lib.hid (S14.out.on hb)
          have B15 := Lib.hid (bel_on' B14.out hb)
          clear hb S14 B14
          go_wp2
          go_ret
          exact ⟨rfl, B15.out⟩
end Go.Proofs.Yteiemcnjcdjglaa
/- Expressions and small numbers that are handed in. -/
namespace Go.Proofs.Yteiemcnjcdjglaa
open Go.ChangeShapes Go.WideShapes Go.ChangeAt Go.RowKit Go.Joins Go.Deep Go.WideElems Go.Maps

set_option maxRecDepth 100000 in
theorem exs_open' {H : Type} {enc : TypeId × Value → H} {w : World} {sp : Nat → Bool} {held : Bool} {b0 : Nat} {v : Value} {d : DataW H} {p : List MemPlace} (hv : Value.okWide Try.prog w .any b0 22 v) (h : DataW.Trod enc Try.prog w 0 sp held 22 v d p) : ∃ L la lc, Exs w v L la lc := by
  obtain ⟨a, len, cap, rfl⟩ := okWide_slice Try.underlying22 hv
  exact exs_open h ⟨_, by simp [Value.cells], rfl⟩
theorem nat_u8 {x : Int} (h : (Lit.int .u8 x).wf = true) : ∃ i : Nat, i < 256 ∧ x = (i : Nat) := by
  rw [Lit.wf, Bool.and_eq_true, decide_eq_true_eq, decide_eq_true_eq, show IntKind.u8.min = 0 from rfl, show IntKind.u8.max = 255 from rfl] at h
  exact ⟨x.toNat, by omega, by omega⟩
end Go.Proofs.Yteiemcnjcdjglaa
