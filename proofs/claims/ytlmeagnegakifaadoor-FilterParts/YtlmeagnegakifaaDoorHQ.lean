/- Plain: a line's header; what is printed is read as it was, and what is read is printed as it was. -/
import Derived.Test.YtlmeagnegakifaaDoorH22
namespace Go.Proofs.YtlmeagnegakifaaDoor
open Lib (decDigits)
open Go.RowKit
set_option linter.unusedVariables false

/-- A header of five parts, or what is wrong first. -/
def hparts (a0 a1 : Nat × Int) (t : (Nat × Nat × Nat) × Int) : (Nat × Nat × Nat × Nat × Nat) × Int :=
  if a0.2 = 0 then (if a1.2 = 0 then (if t.2 = 0 then ((a0.1, a1.1, t.1.1, t.1.2.1, t.1.2.2), 0) else ((0, 0, 0, 0, 0), t.2)) else ((0, 0, 0, 0, 0), a1.2)) else ((0, 0, 0, 0, 0), a0.2)
def parseH (l : List UInt8) : (Nat × Nat × Nat × Nat × Nat) × Int :=
  match sp 32 l with
  | [p0, p1, p2, p3, p4] => hparts (parseA p0) (parseA p1) (num3 (nz 255 p2) (nz 65535 p3) (nz 65535 p4))
  | _ => ((0, 0, 0, 0, 0), 6)
theorem parseH_no (l : List UInt8) (h : (sp 32 l).length ≠ 5) : parseH l = ((0, 0, 0, 0, 0), 6) := by
  unfold parseH
  split
  · rename_i e; rw [e] at h; exact absurd rfl h
  · rfl
theorem num3_bd (z0 z1 z2 : Nat × Int) (h0 : z0.1 ≤ 255) (h1 : z1.1 ≤ 65535) (h2 : z2.1 ≤ 65535) : (num3 z0 z1 z2).1.1 ≤ 255 ∧ (num3 z0 z1 z2).1.2.1 ≤ 65535 ∧ (num3 z0 z1 z2).1.2.2 ≤ 65535 := by
  unfold num3
  split
  · split
    · split
      · exact ⟨h0, h1, h2⟩
      · exact ⟨Nat.zero_le _, Nat.zero_le _, Nat.zero_le _⟩
    · exact ⟨Nat.zero_le _, Nat.zero_le _, Nat.zero_le _⟩
  · exact ⟨Nat.zero_le _, Nat.zero_le _, Nat.zero_le _⟩
theorem five_of {α : Type} : ∀ {l : List α}, l.length = 5 → ∃ a b c d e, l = [a, b, c, d, e]
  | [a, b, c, d, e], _ => ⟨a, b, c, d, e, rfl⟩
theorem four_of {α : Type} : ∀ {l : List α}, l.length = 4 → ∃ a b c d, l = [a, b, c, d]
  | [a, b, c, d], _ => ⟨a, b, c, d, rfl⟩

theorem dd_dig : ∀ (n : Nat) (b : UInt8), b ∈ decDigits n → 48 ≤ b.toNat ∧ b.toNat ≤ 57 := by
  intro n
  induction n using Nat.strongRecOn with
  | _ n ih =>
    intro b hb
    by_cases h : n < 10
    · rw [dd_small h] at hb; simp only [List.mem_singleton] at hb; subst hb; rw [dgt h]; omega
    · rw [dd_step h] at hb
      rcases List.mem_append.1 hb with hb | hb
      · exact ih _ (by omega) b hb
      · simp only [List.mem_singleton] at hb; subst hb; rw [dgt (Nat.mod_lt _ (by decide))]; omega
theorem dd_not (n : Nat) (c : UInt8) (hc : c.toNat < 48) : c ∉ decDigits n := fun h => by have := (dd_dig n c h).1; omega
theorem sp_one (c : UInt8) : ∀ l, c ∉ l → sp c l = [l]
  | [], _ => rfl
  | b :: r, h => by
    rw [sp, if_neg (fun e => h (by rw [e]; simp)), sp_one c r (fun q => h (List.mem_cons_of_mem _ q))]
theorem sp_app (c : UInt8) (r : List UInt8) : ∀ l, c ∉ l → sp c (l ++ c :: r) = l :: sp c r
  | [], _ => by rw [List.nil_append, sp, if_pos rfl]
  | b :: l, h => by
    rw [List.cons_append, sp, if_neg (fun e => h (by rw [e]; simp)), sp_app c r l (fun q => h (List.mem_cons_of_mem _ q))]
theorem sp_back (c : UInt8) : ∀ l, Lib.join (sp c l) [c] = l
  | [] => by rw [sp, Lib.join_one]
  | b :: r => by
    have ih := sp_back c r
    obtain ⟨x, t, e⟩ := List.exists_cons_of_ne_nil (sp_ne c r)
    rw [sp, e]
    rw [e, Lib.join_cons] at ih
    by_cases h : b = c
    · rw [if_pos h, Lib.join_cons, h, ← ih]; simp [Lib.joinTail]
    · rw [if_neg h]
      show Lib.join ((b :: x) :: t) [c] = _
      rw [Lib.join_cons, ← ih]; rfl
theorem dig_of (b : UInt8) (h : 48 ≤ b.toNat) : UInt8.ofNat (48 + (b.toNat - 48)) = b := by
  rw [show 48 + (b.toNat - 48) = b.toNat by omega]; simp
theorem ngo_back (m : Nat) : ∀ (l : List UInt8) (c n : Nat), c ≠ 0 → ngo m l false c = (n, 0) → decDigits n = decDigits c ++ l
  | [], c, n, _, h => by rw [ngo] at h; simp only [Prod.mk.injEq, and_true] at h; rw [h, List.append_nil]
  | b :: r, c, n, hc, h => by
    by_cases h1 : b.toNat < 48 ∨ 57 < b.toNat
    · rw [ngo_bad m b r _ _ (by omega)] at h; simp at h
    · by_cases h2 : m < c * 10 + (b.toNat - 48)
      · rw [ngo_big m b r _ _ (by omega) (by omega) (Or.inr hc) h2] at h; simp at h
      · rw [ngo_next m b r _ _ (by omega) (by omega) (Or.inr hc) (by omega)] at h
        have := ngo_back m r _ n (by omega) h
        have e1 : (c * 10 + (b.toNat - 48)) / 10 = c := by omega
        have e2 : (c * 10 + (b.toNat - 48)) % 10 = b.toNat - 48 := by omega
        rw [this, dd_step (show ¬ c * 10 + (b.toNat - 48) < 10 by omega), e1, e2, dig_of b (by omega), List.append_assoc]; rfl
theorem nz_back (m n : Nat) (l : List UInt8) (h : nz m l = (n, 0)) : l = decDigits n ∧ n ≤ m := by
  have hm := (nz_le m l).1
  rw [h] at hm
  refine ⟨?_, hm⟩
  unfold nz at h
  cases l with
  | nil => simp at h
  | cons b r =>
    rw [if_neg (List.cons_ne_nil _ _)] at h
    by_cases h1 : b.toNat < 48 ∨ 57 < b.toNat
    · rw [ngo_bad m b r _ _ (by omega)] at h; simp at h
    · by_cases h2 : m < 0 * 10 + (b.toNat - 48)
      · rw [ngo_big m b r _ _ (by omega) (by omega) (Or.inl rfl) h2] at h; simp at h
      · rw [ngo_next m b r _ _ (by omega) (by omega) (Or.inl rfl) (by omega)] at h
        have e0 : 0 * 10 + (b.toNat - 48) = b.toNat - 48 := by omega
        rw [e0] at h
        by_cases h0 : b.toNat = 48
        · cases r with
          | nil =>
            rw [ngo] at h; simp only [Prod.mk.injEq, and_true] at h
            rw [← h, dd_small (by omega), dig_of b (by omega)]
          | cons x r => rw [ngo_bad m x r false _ (Or.inr (Or.inr ⟨rfl, by omega⟩))] at h; simp at h
        · have := ngo_back m r _ n (by omega) h
          rw [this, dd_small (by omega), dig_of b (by omega)]; rfl

/-- Four parts with a byte between. -/
def j4 (c : UInt8) (p0 p1 p2 p3 : List UInt8) : List UInt8 := p0 ++ c :: (p1 ++ c :: (p2 ++ c :: p3))
def j5 (c : UInt8) (p0 p1 p2 p3 p4 : List UInt8) : List UInt8 := p0 ++ c :: j4 c p1 p2 p3 p4
theorem join_j4 (c : UInt8) (p0 p1 p2 p3 : List UInt8) : Lib.join [p0, p1, p2, p3] [c] = j4 c p0 p1 p2 p3 := by
  rw [Lib.join_cons]; simp [Lib.joinTail, j4]
theorem join_j5 (c : UInt8) (p0 p1 p2 p3 p4 : List UInt8) : Lib.join [p0, p1, p2, p3, p4] [c] = j5 c p0 p1 p2 p3 p4 := by
  rw [Lib.join_cons]; simp [Lib.joinTail, j5, j4]
theorem sp_j4 (c : UInt8) (p0 p1 p2 p3 : List UInt8) (h0 : c ∉ p0) (h1 : c ∉ p1) (h2 : c ∉ p2) (h3 : c ∉ p3) : sp c (j4 c p0 p1 p2 p3) = [p0, p1, p2, p3] := by
  rw [j4, sp_app c _ _ h0, sp_app c _ _ h1, sp_app c _ _ h2, sp_one c _ h3]
theorem sp_j5 (c : UInt8) (p0 p1 p2 p3 p4 : List UInt8) (h0 : c ∉ p0) (h1 : c ∉ p1) (h2 : c ∉ p2) (h3 : c ∉ p3) (h4 : c ∉ p4) : sp c (j5 c p0 p1 p2 p3 p4) = [p0, p1, p2, p3, p4] := by
  rw [j5, sp_app c _ _ h0, sp_j4 c _ _ _ _ h1 h2 h3 h4]
theorem addrT_list (a : Nat) : (addrT a).data.toList = j4 46 (decDigits (a / 16777216)) (decDigits (a / 65536 % 256)) (decDigits (a / 256 % 256)) (decDigits (a % 256)) := by
  rw [← join_j4]; rfl
theorem addrT_not (a : Nat) (c : UInt8) (hc : c.toNat < 48) (h46 : c ≠ 46) : c ∉ (addrT a).data.toList := by
  rw [addrT_list]
  have h := fun n => dd_not n c hc
  simp only [j4, List.mem_append, List.mem_cons, not_or]
  exact ⟨h _, h46, h _, h46, h _, h46, h _⟩
theorem pgo_back : ∀ (ps : List (List UInt8)) (acc a : Nat), pgo ps acc = (a, 0) → ∃ ns : List Nat, ps = ns.map decDigits ∧ (∀ n ∈ ns, n ≤ 255) ∧ a = ns.foldl (fun x n => x * 256 + n) acc
  | [], acc, a, h => ⟨[], rfl, by simp, by rw [pgo] at h; simp only [Prod.mk.injEq, and_true] at h; exact h.symm⟩
  | p :: r, acc, a, h => by
    rw [pgo_cons] at h
    by_cases c : (nz 255 p).2 = 0
    · rw [if_pos c] at h
      obtain ⟨ns, h1, h2, h3⟩ := pgo_back r _ a h
      obtain ⟨e, hn⟩ := nz_back 255 (nz 255 p).1 p (by rw [← c])
      refine ⟨(nz 255 p).1 :: ns, by rw [List.map_cons, ← e, h1], fun n hm => ?_, h3⟩
      rcases List.mem_cons.1 hm with rfl | hm
      · exact hn
      · exact h2 n hm
    · rw [if_neg c] at h; simp only [Prod.mk.injEq] at h; exact absurd h.2 c
theorem if4 {α β : Type} (a b c d : α) (x y : β) : (if [a, b, c, d].length = 4 then x else y) = x := if_pos rfl
theorem parseA_addr (a : Nat) (ha : a < 4294967296) : parseA (addrT a).data.toList = (a, 0) := by
  have h := fun n => dd_not n 46 (by decide)
  have z := fun n (hn : n ≤ 255) => nz_dec 255 n hn
  rw [parseA, addrT_list, sp_j4 46 _ _ _ _ (h _) (h _) (h _) (h _), if4, pgo_cons, z _ (by omega), if_pos rfl, pgo_cons, z _ (by omega), if_pos rfl, pgo_cons, z _ (by omega), if_pos rfl, pgo_cons, z _ (by omega), if_pos rfl, pgo]
  simp only [Prod.mk.injEq, and_true]
  omega
theorem parseA_back (a : Nat) (l : List UInt8) (h : parseA l = (a, 0)) : l = (addrT a).data.toList ∧ a < 4294967296 := by
  rw [parseA] at h
  by_cases c : (sp 46 l).length = 4
  · rw [if_pos c] at h
    obtain ⟨ns, h1, h2, h3⟩ := pgo_back _ _ _ h
    obtain ⟨n0, n1, n2, n3, rfl⟩ := four_of (l := ns) (by rw [h1, List.length_map] at c; exact c)
    have b0 := h2 n0 (by simp)
    have b1 := h2 n1 (by simp)
    have b2 := h2 n2 (by simp)
    have b3 := h2 n3 (by simp)
    simp only [List.foldl_cons, List.foldl_nil] at h3
    have e := sp_back 46 l
    rw [h1] at e
    simp only [List.map_cons, List.map_nil, join_j4] at e
    rw [addrT_list, ← e, show a / 16777216 = n0 by omega, show a / 65536 % 256 = n1 by omega, show a / 256 % 256 = n2 by omega, show a % 256 = n3 by omega]
    exact ⟨rfl, by omega⟩
  · rw [if_neg c] at h; simp at h
/-- A header's line. -/
def lineT (d s p x y : Nat) : ByteArray := ⟨(j5 32 (addrT d).data.toList (addrT s).data.toList (decDigits p) (decDigits x) (decDigits y)).toArray⟩
theorem lineT_list (d s p x y : Nat) : (lineT d s p x y).data.toList = j5 32 (addrT d).data.toList (addrT s).data.toList (decDigits p) (decDigits x) (decDigits y) := by rw [lineT]
theorem parseH_line (d s p x y : Nat) (hd : d < 4294967296) (hs : s < 4294967296) (hp : p < 256) (hx : x < 65536) (hy : y < 65536) : parseH (lineT d s p x y).data.toList = ((d, s, p, x, y), 0) := by
  have h := fun n => dd_not n 32 (by decide)
  have g := fun a => addrT_not a 32 (by decide) (by decide)
  rw [parseH, lineT_list, sp_j5 32 _ _ _ _ _ (g _) (g _) (h _) (h _) (h _)]
  show hparts _ _ _ = _
  rw [parseA_addr d hd, parseA_addr s hs, nz_dec 255 p (by omega), nz_dec 65535 x (by omega), nz_dec 65535 y (by omega)]
  rfl
theorem num3_ok (z0 z1 z2 : Nat × Int) (t : Nat × Nat × Nat) (h : num3 z0 z1 z2 = (t, 0)) : z0 = (t.1, 0) ∧ z1 = (t.2.1, 0) ∧ z2 = (t.2.2, 0) := by
  unfold num3 at h
  split at h
  · split at h
    · split at h
      · rename_i a b c
        simp only [Prod.mk.injEq, and_true] at h
        subst h
        exact ⟨by rw [← a], by rw [← b], by rw [← c]⟩
      · rename_i c; simp only [Prod.mk.injEq] at h; exact absurd h.2 c
    · rename_i c; simp only [Prod.mk.injEq] at h; exact absurd h.2 c
  · rename_i c; simp only [Prod.mk.injEq] at h; exact absurd h.2 c
theorem parseH_back (T : Nat × Nat × Nat × Nat × Nat) (l : List UInt8) (h : parseH l = (T, 0)) :
    l = (lineT T.1 T.2.1 T.2.2.1 T.2.2.2.1 T.2.2.2.2).data.toList ∧ T.1 < 4294967296 ∧ T.2.1 < 4294967296 ∧ T.2.2.1 < 256 ∧ T.2.2.2.1 < 65536 ∧ T.2.2.2.2 < 65536 := by
  by_cases c : (sp 32 l).length = 5
  · obtain ⟨p0, p1, p2, p3, p4, e⟩ := five_of c
    have hj := sp_back 32 l
    unfold parseH at h
    rw [e] at h hj
    rw [join_j5] at hj
    simp only at h
    unfold hparts at h
    by_cases c0 : (parseA p0).2 = 0
    · rw [if_pos c0] at h
      by_cases c1 : (parseA p1).2 = 0
      · rw [if_pos c1] at h
        by_cases c2 : (num3 (nz 255 p2) (nz 65535 p3) (nz 65535 p4)).2 = 0
        · rw [if_pos c2] at h
          obtain ⟨z0, z1, z2⟩ := num3_ok _ _ _ (num3 (nz 255 p2) (nz 65535 p3) (nz 65535 p4)).1 (by rw [← c2])
          obtain ⟨a0, a1⟩ := parseA_back (parseA p0).1 p0 (by rw [← c0])
          obtain ⟨b0, b1⟩ := parseA_back (parseA p1).1 p1 (by rw [← c1])
          obtain ⟨n0, m0⟩ := nz_back _ _ _ z0
          obtain ⟨n1, m1⟩ := nz_back _ _ _ z1
          obtain ⟨n2, m2⟩ := nz_back _ _ _ z2
          simp only [Prod.mk.injEq, and_true] at h
          subst h
          refine ⟨?_, a1, b1, by simp only; omega, by simp only; omega, by simp only; omega⟩
          rw [lineT_list, ← hj]
          show _ = j5 32 (addrT (parseA p0).1).data.toList (addrT (parseA p1).1).data.toList _ _ _
          rw [← a0, ← b0]
          show _ = j5 32 p0 p1 (decDigits (num3 (nz 255 p2) (nz 65535 p3) (nz 65535 p4)).1.1) (decDigits (num3 (nz 255 p2) (nz 65535 p3) (nz 65535 p4)).1.2.1) (decDigits (num3 (nz 255 p2) (nz 65535 p3) (nz 65535 p4)).1.2.2)
          rw [← n0, ← n1, ← n2]
        · rw [if_neg c2] at h; simp only [Prod.mk.injEq] at h; exact absurd h.2 c2
      · rw [if_neg c1] at h; simp only [Prod.mk.injEq] at h; exact absurd h.2 c1
    · rw [if_neg c0] at h; simp only [Prod.mk.injEq] at h; exact absurd h.2 c0
  · rw [parseH_no l c] at h; simp at h
def HRet (T : (Nat × Nat × Nat × Nat × Nat) × Int) (w : World) (e : Ending) (w' : World) : Prop :=
  e = .returned (.tuple #[hv T.1.1 T.1.2.1 T.1.2.2.1 T.1.2.2.2.1 T.1.2.2.2.2, .int .i64 T.2]) ∧ Below w.heap.size w w'
def Hd (w : World) (b : Nat) (u1 u2 u3 u4 u5 : Int) : Prop :=
  (w.cell? ⟨b, 0, none⟩ = some (.int .u32 u1) ∧ w.cell? ⟨b, 1, none⟩ = some (.int .u32 u2) ∧ w.cell? ⟨b, 2, none⟩ = some (.int .u8 u3) ∧ w.cell? ⟨b, 3, none⟩ = some (.int .u16 u4) ∧ w.cell? ⟨b, 4, none⟩ = some (.int .u16 u5)) ∧
  (w.frozen? ⟨b, 0, none⟩ = false ∧ w.frozen? ⟨b, 1, none⟩ = false ∧ w.frozen? ⟨b, 2, none⟩ = false ∧ w.frozen? ⟨b, 3, none⟩ = false ∧ w.frozen? ⟨b, 4, none⟩ = false)
theorem Hd.on {w w' : World} {b : Nat} {u1 u2 u3 u4 u5 : Int} (h : Hd w b u1 u2 u3 u4 u5) (hb : Below w.heap.size w w') : Hd w' b u1 u2 u3 u4 u5 := by
  have hl : b < w.heap.size := cell_lt (o := 0) (by rw [h.1.1]; rfl)
  obtain ⟨⟨h1, h2, h3, h4, h5⟩, f1, f2, f3, f4, f5⟩ := h
  exact ⟨⟨(hb.cell (p := ⟨b, 0, none⟩) hl).trans h1, (hb.cell (p := ⟨b, 1, none⟩) hl).trans h2, (hb.cell (p := ⟨b, 2, none⟩) hl).trans h3, (hb.cell (p := ⟨b, 3, none⟩) hl).trans h4, (hb.cell (p := ⟨b, 4, none⟩) hl).trans h5⟩,
    (hb.frozen (p := ⟨b, 0, none⟩) hl).trans f1, (hb.frozen (p := ⟨b, 1, none⟩) hl).trans f2, (hb.frozen (p := ⟨b, 2, none⟩) hl).trans f3, (hb.frozen (p := ⟨b, 3, none⟩) hl).trans f4, (hb.frozen (p := ⟨b, 4, none⟩) hl).trans f5⟩
/-- A header stored cell by cell. -/
theorem Hd.put {w : World} {b : Nat} {u1 u2 u3 u4 u5 : Int} (h : Hd w b u1 u2 u3 u4 u5) (v1 v2 v3 v4 v5 : Int) :
    Hd (((((w.setCell ⟨b, 0, none⟩ (.int .u32 v1)).setCell ⟨b, 1, none⟩ (.int .u32 v2)).setCell ⟨b, 2, none⟩ (.int .u8 v3)).setCell ⟨b, 3, none⟩ (.int .u16 v4)).setCell ⟨b, 4, none⟩ (.int .u16 v5)) b v1 v2 v3 v4 v5 := by
  obtain ⟨⟨h1, h2, h3, h4, h5⟩, f1, f2, f3, f4, f5⟩ := h
  have o : ∀ (w : World) (i j : Nat) (v : Value), i ≠ j → (w.setCell ⟨b, i, none⟩ v).cell? ⟨b, j, none⟩ = w.cell? ⟨b, j, none⟩ := fun w i j v hij => World.cell?_setCell_other _ _ _ _ (by first | (simp; done) | (simp; omega))
  refine ⟨⟨?_, ?_, ?_, ?_, ?_⟩, by simp [f1], by simp [f2], by simp [f3], by simp [f4], by simp [f5]⟩
  · rw [o _ 4 0 _ (by decide), o _ 3 0 _ (by decide), o _ 2 0 _ (by decide), o _ 1 0 _ (by decide)]; exact World.cell?_setCell_same _ _ _ h1
  · rw [o _ 4 1 _ (by decide), o _ 3 1 _ (by decide), o _ 2 1 _ (by decide)]; exact World.cell?_setCell_same _ _ _ (by rw [o _ 0 1 _ (by decide)]; exact h2)
  · rw [o _ 4 2 _ (by decide), o _ 3 2 _ (by decide)]; exact World.cell?_setCell_same _ _ _ (by rw [o _ 1 2 _ (by decide), o _ 0 2 _ (by decide)]; exact h3)
  · rw [o _ 4 3 _ (by decide)]; exact World.cell?_setCell_same _ _ _ (by rw [o _ 2 3 _ (by decide), o _ 1 3 _ (by decide), o _ 0 3 _ (by decide)]; exact h4)
  · exact World.cell?_setCell_same _ _ _ (by rw [o _ 3 4 _ (by decide), o _ 2 4 _ (by decide), o _ 1 4 _ (by decide), o _ 0 4 _ (by decide)]; exact h5)
theorem below_put5 {w0 w : World} {n b : Nat} (h : Below n w0 w) (hb : n ≤ b) (v1 v2 v3 v4 v5 : Value) :
    Below n w0 (((((w.setCell ⟨b, 0, none⟩ v1).setCell ⟨b, 1, none⟩ v2).setCell ⟨b, 2, none⟩ v3).setCell ⟨b, 3, none⟩ v4).setCell ⟨b, 4, none⟩ v5) :=
  ((((h.setCell hb _).setCell hb _).setCell hb _).setCell hb _).setCell hb _
/-- A goal at a world of which no more is wanted than the header and what lies below. -/
theorem at_hd {Q : World → Prop} {W w : World} {b n : Nat} {v1 v2 v3 v4 v5 : Int} (h : Hd W b v1 v2 v3 v4 v5) (hb : Below n w W) (k : ∀ W, Hd W b v1 v2 v3 v4 v5 → Below n w W → Q W) : Q W := k W h hb
theorem Hd.drew {w : World} {b : Nat} {u1 u2 u3 u4 u5 : Int} (h : Hd w b u1 u2 u3 u4 u5) : Hd w.drew b u1 u2 u3 u4 u5 := h
theorem Hd.put_d {w : World} {b : Nat} {u1 u2 u3 u4 u5 : Int} (h : Hd w b u1 u2 u3 u4 u5) (v1 v2 v3 v4 v5 : Int) :
    Hd (((((w.setCell ⟨b, 0, none⟩ (.int .u32 v1)).setCell ⟨b, 1, none⟩ (.int .u32 v2)).setCell ⟨b, 2, none⟩ (.int .u8 v3)).setCell ⟨b, 3, none⟩ (.int .u16 v4)).setCell ⟨b, 4, none⟩ (.int .u16 v5)).drew b v1 v2 v3 v4 v5 := (h.put v1 v2 v3 v4 v5).drew
theorem below_put5_d {w0 w : World} {n b : Nat} (h : Below n w0 w) (hb : n ≤ b) (v1 v2 v3 v4 v5 : Value) :
    Below n w0 (((((w.setCell ⟨b, 0, none⟩ v1).setCell ⟨b, 1, none⟩ v2).setCell ⟨b, 2, none⟩ v3).setCell ⟨b, 3, none⟩ v4).setCell ⟨b, 4, none⟩ v5).drew := (below_put5 h hb v1 v2 v3 v4 v5).drew
end Go.Proofs.YtlmeagnegakifaaDoor
