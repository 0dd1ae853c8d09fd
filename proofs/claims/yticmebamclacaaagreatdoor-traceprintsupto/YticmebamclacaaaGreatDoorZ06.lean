/- A declaration read from tokens. -/
import Derived.Test.YticmebamclacaaaGreatDoorZ05
import Derived.OwnWalk
import Derived.Laws.OwnMore
import Derived.Deep.RegionLaw
import Derived.Test.YticmebamclacaaaGreatDoorZ03
import Derived.Test.YticmebamclacaaaGreatDoorZ02
import Derived.Laws.IdiomStrings

namespace Go.Proofs.YticmebamclacaaaGreatDoor
open Go.RowKit Go.Shelf LX
set_option linter.unusedVariables false

theorem sclone_any (s : ByteArray) (w : World) (hs : s.size ≤ 281474976710656) :
    Calls Tryz.prog 119 #[.string s] w fun e w' => e = .returned (.string s) ∧ Below w.heap.size w w' := by
  go_enter Tryz.func119, Tryz.ntmps119
  go_wp2_with fail
  refine (Tryz.stringslite_Clone s _ hs).mono ?_
  rintro e w1 ⟨rfl, hb⟩
  go_wp2
  go_ret
  exact ⟨rfl, hb⟩
/-- A block that holds a token. -/
structure BlkT (W : World) (B : Nat) (K at_ : Int) (x : ByteArray) (k n d : Int) (s : ByteArray) : Prop where
  c0 : W.cell? ⟨B, 0, none⟩ = some (.int .i64 K)
  c1 : W.cell? ⟨B, 1, none⟩ = some (.int .i64 at_)
  c2 : W.cell? ⟨B, 2, none⟩ = some (.string x)
  c3 : W.cell? ⟨B, 3, none⟩ = some (.int .i64 k)
  c4 : W.cell? ⟨B, 4, none⟩ = some (.int .i64 n)
  c5 : W.cell? ⟨B, 5, none⟩ = some (.int .i64 d)
  c6 : W.cell? ⟨B, 6, none⟩ = some (.string s)
  f0 : W.frozen? ⟨B, 0, none⟩ = false
  f1 : W.frozen? ⟨B, 1, none⟩ = false
  f2 : W.frozen? ⟨B, 2, none⟩ = false
  f3 : W.frozen? ⟨B, 3, none⟩ = false
  f4 : W.frozen? ⟨B, 4, none⟩ = false
  f5 : W.frozen? ⟨B, 5, none⟩ = false
  f6 : W.frozen? ⟨B, 6, none⟩ = false
theorem BlkT.below {W W' : World} {B m : Nat} {K at_ k n d : Int} {x s : ByteArray} (h : BlkT W B K at_ x k n d s) (hb : Below m W W') (hB : B < m) : BlkT W' B K at_ x k n d s :=
  ⟨(hb.cell (p := ⟨B, 0, none⟩) hB).trans h.c0, (hb.cell (p := ⟨B, 1, none⟩) hB).trans h.c1, (hb.cell (p := ⟨B, 2, none⟩) hB).trans h.c2, (hb.cell (p := ⟨B, 3, none⟩) hB).trans h.c3, (hb.cell (p := ⟨B, 4, none⟩) hB).trans h.c4, (hb.cell (p := ⟨B, 5, none⟩) hB).trans h.c5, (hb.cell (p := ⟨B, 6, none⟩) hB).trans h.c6,
   (hb.frozen (p := ⟨B, 0, none⟩) hB).trans h.f0, (hb.frozen (p := ⟨B, 1, none⟩) hB).trans h.f1, (hb.frozen (p := ⟨B, 2, none⟩) hB).trans h.f2, (hb.frozen (p := ⟨B, 3, none⟩) hB).trans h.f3, (hb.frozen (p := ⟨B, 4, none⟩) hB).trans h.f4, (hb.frozen (p := ⟨B, 5, none⟩) hB).trans h.f5, (hb.frozen (p := ⟨B, 6, none⟩) hB).trans h.f6⟩
theorem BlkT.seven {W : World} {B : Nat} {K at_ k n d K' at' k' n' d' : Int} {x s x' s' : ByteArray} (h : BlkT W B K at_ x k n d s) : BlkT (((((((W.setCell ⟨B, 0, none⟩ (.int .i64 K')).setCell ⟨B, 1, none⟩ (.int .i64 at')).setCell ⟨B, 2, none⟩ (.string x')).setCell ⟨B, 3, none⟩ (.int .i64 k')).setCell ⟨B, 4, none⟩ (.int .i64 n')).setCell ⟨B, 5, none⟩ (.int .i64 d')).setCell ⟨B, 6, none⟩ (.string s')) B K' at' x' k' n' d' s' := by
  obtain ⟨c0, c1, c2, c3, c4, c5, c6, f0, f1, f2, f3, f4, f5, f6⟩ := h
  constructor <;> simp (maxDischargeDepth := 16) [go_sem, c0, c1, c2, c3, c4, c5, c6, f0, f1, f2, f3, f4, f5, f6]
theorem below7 {B0 B : Nat} {w W : World} (h : Below B0 w W) (hB : B0 ≤ B) (v0 v1 v2 v3 v4 v5 v6 : Value) : Below B0 w (((((((W.setCell ⟨B, 0, none⟩ v0).setCell ⟨B, 1, none⟩ v1).setCell ⟨B, 2, none⟩ v2).setCell ⟨B, 3, none⟩ v3).setCell ⟨B, 4, none⟩ v4).setCell ⟨B, 5, none⟩ v5).setCell ⟨B, 6, none⟩ v6) :=
  ((((((h.setCell hB _).setCell hB _).setCell hB _).setCell hB _).setCell hB _).setCell hB _).setCell hB _
set_option maxRecDepth 100000 in
set_option maxHeartbeats 4000000 in
theorem token_no (s : ByteArray) (i : Nat) (E : Int) (w : World)
    (BH : Hid (∀ W : World, Calls Tryz.prog 118 #[.string s, .int .i64 i] W fun e w' => e = .returned (.tuple #[.int .i64 0, .int .i64 E]) ∧ w' = W)) :
    Calls Tryz.prog 104 #[.string s, .int .i64 i] w fun e w' => e = .returned (.tuple #[.agg #[.int .i64 0, .int .i64 0, .string ⟨#[]⟩, .int .i64 0, .int .i64 0, .int .i64 0, .string ⟨#[]⟩], .bool false]) ∧ Below w.heap.size w w' := by
  go_enter Tryz.func104, Tryz.ntmps104
  go_wp2_with fail
  refine (BH.out _).mono ?_
  rintro e w1 ⟨rfl, rfl⟩
  go_wp2
  refine bodyPost_ret (by simp [results, Tryz.results104, go_sem]; try rfl) rfl ?_
  exact ⟨rfl, (Below.refl _ w).alloc (Nat.le_refl _) _⟩
set_option maxRecDepth 100000 in
set_option maxHeartbeats 4000000 in
theorem token_yes (s x S : ByteArray) (i m : Nat) (K k n d : Int) (ok : Bool) (w : World) (hK : ¬ K = 0) (him : i ≤ m) (hm : m ≤ s.size) (hs : s.size ≤ 16384) (hx : s.extract i m = x)
    (BH : Hid (∀ W : World, Calls Tryz.prog 118 #[.string s, .int .i64 i] W fun e w' => e = .returned (.tuple #[.int .i64 K, .int .i64 m]) ∧ w' = W))
    (CL : Hid (∀ W : World, Calls Tryz.prog 119 #[.string x] W fun e w' => e = .returned (.string x) ∧ Below W.heap.size W w'))
    (SA : Hid (∀ W : World, Pow W → Errs W → 9 ≤ W.heap.size → Calls Tryz.prog 120 #[.int .i64 K, .string x] W fun e w' => e = .returned (.tuple #[.agg #[.int .i64 k, .int .i64 n, .int .i64 d, .string S], .bool ok]) ∧ Below W.heap.size W w'))
    (ht : Pow w) (he : Errs w) (h8 : 9 ≤ w.heap.size) :
    Calls Tryz.prog 104 #[.string s, .int .i64 i] w fun e w' => e = .returned (.tuple #[.agg #[.int .i64 K, .int .i64 i, .string x, .int .i64 k, .int .i64 n, .int .i64 d, .string S], .bool ok]) ∧ Below w.heap.size w w' := by
  have HE : Hid (Errs w) := he
  have HP : Hid (Pow w) := ht
  clear he ht
  have him' : (i : Int) ≤ m := by omega
  have hm' : (m : Int) ≤ s.size := by omega
  go_enter Tryz.func104, Tryz.ntmps104
  go_wp2_with fail
  refine (BH.out _).mono ?_
  rintro e w1 ⟨rfl, rfl⟩
  go_wp2_with fail
  refine (CL.out _).mono ?_
  rintro e w1 ⟨rfl, hb1⟩
  have R1 : Hid (BlkT w1 w.heap.size 0 0 ⟨#[]⟩ 0 0 0 ⟨#[]⟩) := BlkT.below (by constructor <;> simp (maxDischargeDepth := 16) [go_sem]) hb1 (by simp)
  have B1 : Below w.heap.size w w1 := ((Below.refl _ w).alloc (Nat.le_refl _) _).trans (hb1.mono (by simp))
  have z1 : w.heap.size < w1.heap.size := by have := hb1.size; simp at this; omega
  clear hb1
  go_wp2_with fail
  refine (SA.out _ (HP.out.below B1) (HE.out.below B1 h8) (by omega)).mono ?_
  rintro e w2 ⟨rfl, hb2⟩
  have R2 : Hid (BlkT w2 w.heap.size 0 0 ⟨#[]⟩ 0 0 0 ⟨#[]⟩) := R1.out.below hb2 z1
  have B2 : Below w.heap.size w w2 := B1.trans (hb2.mono B1.size)
  have z2 : w.heap.size < w2.heap.size := by have := hb2.size; omega
  clear R1 B1 hb2
  go_upto_region 6 with fail
  refine wp_world ?_
  intro W3 hW3
  have R3 : Hid (BlkT W3 w.heap.size 0 0 ⟨#[]⟩ 0 0 0 ⟨#[]⟩) := by rw [hW3]; exact R2.out.below ((Below.refl w2.heap.size w2).alloc (Nat.le_refl _) _) z2
  have V3 : Hid (BlkV W3 w2.heap.size k n d S) := by rw [hW3]; constructor <;> simp (maxDischargeDepth := 12) [go_sem]
  have B3 : Below w.heap.size w W3 := by rw [hW3]; exact B2.alloc B2.size _
  clear hW3 R2 B2
  obtain ⟨r0, r1, r2, r3, r4, r5, r6, q0, q1, q2, q3, q4, q5, q6⟩ := R3.out
  obtain ⟨v0, v1, v2, v3, -, -, -, -⟩ := V3.out
  go_wp2
  generalize hW9 : World.setCell _ _ _ = W9
  have b9 : BlkT W9 w.heap.size K i x k n d S := by rw [← hW9]; exact R3.out.seven
  have hB9 : Below w.heap.size w W9 := by rw [← hW9]; exact below7 B3 (Nat.le_refl _) _ _ _ _ _ _ _
  clear hW9
  obtain ⟨x0, x1, x2, x3, x4, x5, x6, -, -, -, -, -, -, -⟩ := b9
  refine bodyPost_ret (by simp [results, Tryz.results104, go_sem, x0, x1, x2, x3, x4, x5, x6]; try rfl) rfl ?_
  exact ⟨rfl, hB9⟩
theorem beh_5 (l : List UInt8) (h : (beh l).1 = 5) : 2 ≤ (beh l).2 := by
  cases l with
  | nil => simp [beh] at h
  | cons c t =>
    revert h
    rw [beh_cons]
    split
    · simp
    split
    · simp
    split
    · simp
    split
    · simp
    split
    · simp
    split
    · simp
    split
    · cases hb : brk t with
      | none => simp
      | some k => intro _; have := brk_le t k hb; simp; omega
    split
    · cases hb : qend false t with
      | none => simp
      | some k => simp
    split
    · simp
    · simp
/-- token at every place of a text: the value, and whether there is a token. -/
theorem token_any (s : ByteArray) (i : Nat) (w : World) (hs : s.size ≤ 16384) (hi : i < s.size) (ht : Pow w) (he : Errs w) (h8 : 9 ≤ w.heap.size) :
    Calls Tryz.prog 104 #[.string s, .int .i64 i] w fun e w' => ∃ (K at_ k n d : Int) (x S : ByteArray) (ok : Bool), e = .returned (.tuple #[.agg #[.int .i64 K, .int .i64 at_, .string x, .int .i64 k, .int .i64 n, .int .i64 d, .string S], .bool ok]) ∧ Below w.heap.size w w' ∧
      Hid ((ok = true ↔ fine sdB (s.data.toList.drop i)) ∧ (ok = true → tokAt sdB (s.data.toList.drop i) i = ⟨K.toNat, at_.toNat, x.data.toList, ⟨k, n, d, S⟩⟩ ∧ K = K.toNat ∧ at_ = i ∧ 1 ≤ x.size ∧ i + x.size ≤ s.size)) := by
  have BH := fun (W : World) => behind_any s i W hs hi
  have hl : s.data.toList.length = s.size := by simp
  obtain ⟨b, hb⟩ : ∃ b, beh (s.data.toList.drop i) = b := ⟨_, rfl⟩
  obtain ⟨K, n⟩ := b
  rw [hb] at BH
  by_cases hK : K = 0
  · subst hK
    refine (token_no s i _ w BH).mono ?_
    rintro e w' ⟨rfl, hB⟩
    refine ⟨_, _, _, _, _, _, _, _, rfl, hB, ?_, ?_⟩
    · constructor
      · intro h; cases h
      · intro h; exact absurd (by rw [hb]) h.1
    · intro h; cases h
  · have hle := beh_le (s.data.toList.drop i) (by rw [hb]; exact hK)
    rw [hb] at hle
    simp only [List.length_drop, hl] at hle
    dsimp only at BH
    rw [if_neg hK] at BH
    have hx : s.extract i (i + n) = ⟨((s.data.toList.drop i).take n).toArray⟩ := ba_eq (by rw [ext_mid, Nat.add_sub_cancel_left])
    have hxl : (⟨((s.data.toList.drop i).take n).toArray⟩ : ByteArray).size = n := by
      show ((s.data.toList.drop i).take n).toArray.size = n
      simp
      omega
    have two : K = 5 → 2 ≤ n := by
      intro h5
      have := beh_5 (s.data.toList.drop i) (by rw [hb]; exact h5)
      rw [hb] at this
      exact this
    refine (token_yes s _ (sdB K ((s.data.toList.drop i).take n)).1.s i (i + n) K (sdB K ((s.data.toList.drop i).take n)).1.k (sdB K ((s.data.toList.drop i).take n)).1.n (sdB K ((s.data.toList.drop i).take n)).1.d (sdB K ((s.data.toList.drop i).take n)).2 w (by omega) (by omega) (by omega) hs hx BH (fun W => sclone_any _ W (by rw [hxl]; omega)) (fun W q1 q2 q3 => by
      have q := said_any K ⟨((s.data.toList.drop i).take n).toArray⟩ W (by rw [hxl]; omega) q1 q2 q3 (by rw [hxl]; exact two) (by rw [hxl]; intro _; omega)
      exact q) ht he h8).mono ?_
    rintro e w' ⟨rfl, hB⟩
    refine ⟨_, _, _, _, _, _, _, _, rfl, hB, ?_, ?_⟩
    · unfold fine
      rw [hb]
      exact ⟨fun h => ⟨hK, h⟩, fun h => h.2⟩
    · intro _
      refine ⟨?_, rfl, rfl, by rw [hxl]; omega, by rw [hxl]; omega⟩
      unfold tokAt
      rw [hb]
      rfl
end Go.Proofs.YticmebamclacaaaGreatDoor

namespace Go.Proofs.YticmebamclacaaaGreatDoor
open Go.RowKit Go.Shelf LX
set_option linter.unusedVariables false

theorem own_bel7 {w w' : World} {B e size n : Nat} {v : Value} {xs : List Value} (h : w.ownsRow B e size v n xs) (hb : Below w.heap.size w w') : w'.ownsRow B e size v n xs :=
  World.ownsRow.kept h (row := none) ⟨hb.os, hb.tape, hb.output, hb.size, fun k hk _ => hb.block k hk⟩ (by cases hv : v.ownBlock with | none => exact Or.inl rfl | some k => exact Or.inr (by intro h; cases h))
theorem grownBy_setCell (w : World) (b i : Nat) (v : Value) : w.grownBy (w.setCell ⟨b, i, none⟩ v) (some b) :=
  ⟨rfl, rfl, rfl, by simp [World.setCell], fun k _ hk => Below.heap_setCell _ _ _ _ (fun e => hk (by simp [e]))⟩
theorem own_set {w : World} {B e size n T j : Nat} {v u : Value} {xs : List Value} (h : w.ownsRow B e size v n xs) (hT : T < B) : (w.setCell ⟨T, j, none⟩ u).ownsRow B e size v n xs := by
  refine World.ownsRow.kept h (grownBy_setCell w T j u) ?_
  by_cases hv : v.ownBlock = none
  · exact Or.inl hv
  · refine Or.inr fun e => ?_
    have := (World.ownsRow.lt h T e).1
    omega
/-- The cells of a token. -/
def tcells (t : Tok Val) : List Value := [.int .i64 t.k, .int .i64 t.at_, .string ⟨t.x.toArray⟩, .int .i64 t.v.k, .int .i64 t.v.n, .int .i64 t.v.d, .string t.v.s]
def flatT (L : List (Tok Val)) : List Value := L.flatMap tcells
theorem flatT_more (L : List (Tok Val)) (t : Tok Val) : flatT L ++ tcells t = flatT (L ++ [t]) := by simp [flatT]
/-- A slice of tokens of the call's own. -/
def OwnT7 (B : Nat) (v : Value) (L : List (Tok Val)) (w : World) : Prop := w.ownsRow B 109 7 v L.length (flatT L)
theorem inT : (Tryz.prog.info? 109).map (fun i => (i.zero, i.size, i.bytes)) = some (some (.agg #[.int .i64 0, .int .i64 0, .string ⟨#[]⟩, .int .i64 0, .int .i64 0, .int .i64 0, .string ⟨#[]⟩]), 7, 72) := by kernel_rfl
/-- A frame of Tokens. -/
structure FrK (a : Act) (s : ByteArray) (v : Value) (B p : Nat) : Prop where
  d : a.defers = []
  n : a.tmps.size = 47
  x0 : a.tmps[0]? = some (.string s)
  x5 : a.tmps[5]? = some v
  x6 : a.tmps[6]? = some (.pointer (some ⟨B, 0, none⟩))
  x8 : a.tmps[8]? = some (.int .i64 p)
theorem FrK.lit {a : Act} {s : ByteArray} {v : Value} {B p : Nat} (h : FrK a s v B p) : ∃ u : Nat → Value, a = { tmps := #[.string s, u 1, u 2, u 3, u 4, v, .pointer (some ⟨B, 0, none⟩), u 7, .int .i64 (p : Nat), u 9, u 10, u 11, u 12, u 13, u 14, u 15, u 16, u 17, u 18, u 19, u 20, u 21, u 22, u 23, u 24, u 25, u 26, u 27, u 28, u 29, u 30, u 31, u 32, u 33, u 34, u 35, u 36, u 37, u 38, u 39, u 40, u 41, u 42, u 43, u 44, u 45, u 46], defers := [] } := by
  obtain ⟨t, d⟩ := a
  obtain ⟨h1, h2, h3, h4, h5, h6⟩ := h
  dsimp only at h1 h2 h3 h4 h5 h6
  subst h1
  obtain ⟨l⟩ := t
  have h2' : l.length = 47 := by simpa using h2
  have hl := list_of 47 l h2'
  have get : ∀ (j : Nat) (y : Value), (Array.mk l)[j]? = some y → l.getD j undef = y := by
    intro j y hy
    have : l[j]? = some y := by simpa using hy
    simp [List.getD, this]
  have e0 := get _ _ h3
  have e5 := get _ _ h4
  have e6 := get _ _ h5
  have e8 := get _ _ h6
  refine ⟨fun i => l.getD i undef, ?_⟩
  rw [← e0, ← e5, ← e6, ← e8]
  congr 1
  exact congrArg Array.mk hl
/-- What has been cut so far, and what is left. -/
def Left (l : List UInt8) (L : List (Tok Val)) (p : Nat) : Prop := T sdB l 0 = (L ++ (T sdB (l.drop p) p).1, (T sdB (l.drop p) p).2)

set_option maxRecDepth 100000 in
set_option maxHeartbeats 8000000 in
theorem tokens_run (s : ByteArray) (w : World) (hs : s.size ≤ 16384) (ht : Pow w) (he : Errs w) (h8 : 9 ≤ w.heap.size) :
    Calls Tryz.prog 76 #[.string s] w fun e w' => Below w.heap.size w w' ∧ ((∃ p : Nat, (T sdB s.data.toList 0).2 = some p ∧ e = .returned (.tuple #[.slice none 0 0, .int .i64 50, .int .i64 p])) ∨ ((T sdB s.data.toList 0).2 = none ∧ ∃ v, e = .returned (.tuple #[v, .int .i64 0, .int .i64 0]) ∧ OwnT7 (w.heap.size + 1) v (T sdB s.data.toList 0).1 w')) := by
  obtain ⟨i0, hi, hz0, hz1, hz2⟩ := info_parts inT
  have hl : s.data.toList.length = s.size := by simp
  have hsz : ¬ (16384 : Int) < s.size := by omega
  have HE : Hid (Errs w) := he
  have HP : Hid (Pow w) := ht
  clear he ht
  have TK : Hid (∀ (i : Nat) (W : World), i < s.size → Pow W → Errs W → 9 ≤ W.heap.size → Calls Tryz.prog 104 #[.string s, .int .i64 i] W fun e w' => ∃ (K at_ k n d : Int) (x S : ByteArray) (ok : Bool), e = .returned (.tuple #[.agg #[.int .i64 K, .int .i64 at_, .string x, .int .i64 k, .int .i64 n, .int .i64 d, .string S], .bool ok]) ∧ Below W.heap.size W w' ∧ Hid ((ok = true ↔ fine sdB (s.data.toList.drop i)) ∧ (ok = true → tokAt sdB (s.data.toList.drop i) i = ⟨K.toNat, at_.toNat, x.data.toList, ⟨k, n, d, S⟩⟩ ∧ K = K.toNat ∧ at_ = i ∧ 1 ≤ x.size ∧ i + x.size ≤ s.size))) := fun i W q1 q2 q3 q4 => token_any s i W hs q1 q2 q3 q4
  go_enter Tryz.func76, Tryz.ntmps76
  go_wp2
  refine wp_scope_gotos (fun l a W => l = 0 ∧ ∃ (p : Nat) (v : Value) (L : List (Tok Val)), FrK a s v w.heap.size p ∧ p ≤ s.size ∧ L.length ≤ p ∧ Below w.heap.size w W ∧ w.heap.size < W.heap.size ∧ Hid (∃ (K at_ k n d : Int) (x S : ByteArray), BlkT W w.heap.size K at_ x k n d S) ∧ Hid (OwnT7 (w.heap.size + 1) v L W) ∧ Hid (Left s.data.toList L p)) (fun _ a _ => (s.size - intAt a 8).toNat) ?_ ?_
  · rintro l a W ⟨rfl, p, v, L, hF, hp, hLp, hB, hz, hT, hO, hR⟩
    obtain ⟨u, rfl⟩ := hF.lit
    clear hF
    refine ⟨_, rfl, ?_⟩
    by_cases hn : p = s.size
    · have hn' : (p : Int) = s.size := by omega
      go_wp2
      simp only [Exit.jumps]
      refine bodyPost_ret (by simp [results, Tryz.results76, go_sem]; try rfl) rfl ?_
      have hR' := hR.out
      unfold Left at hR'
      rw [List.drop_eq_nil_of_le (by omega), T_nil] at hR'
      refine ⟨hB, .inr ⟨by rw [hR'], v, rfl, ?_⟩⟩
      rw [hR']
      simpa using hO.out
    · have hlt : p < s.size := by omega
      have hn' : ¬ (p : Int) = s.size := by omega
      have hdr := drop_at s p hlt
      have hR' : Hid (T sdB s.data.toList 0 = (L ++ (T sdB (s[p] :: s.data.toList.drop (p + 1)) p).1, (T sdB (s[p] :: s.data.toList.drop (p + 1)) p).2)) := by
        have := hR.out
        unfold Left at this
        rw [hdr] at this
        exact this
      clear hR
      by_cases h32 : s[p].toNat = 32
      · have h32' : ((s[p].toNat : Nat) : Int) = 32 := by omega
        have hbk : blk s[p] = true := by simp [blk, h32]
        have hb32 : ((s[p].toNat : Int) == 32) = true := by simpa using h32'
        have hR2 : Hid (Left s.data.toList L (p + 1)) := by
          have := hR'.out
          rw [T_blank sdB _ p hbk] at this
          exact this
        clear hR' hdr
        go_wp2
        go_step3
        refine ⟨⟨rfl, p + 1, v, L, ⟨rfl, rfl, rfl, rfl, rfl, rfl⟩, by omega, by omega, hB, hz, hT, hO, hR2⟩, ?_⟩
        simp [intAt]
        omega
      · have h32' : ¬ ((s[p].toNat : Nat) : Int) = 32 := by omega
        by_cases h10 : s[p].toNat = 10
        · have h10' : ((s[p].toNat : Nat) : Int) = 10 := by omega
          have hbk : blk s[p] = true := by simp [blk, h10]
          have hb10 : ((s[p].toNat : Int) == 10) = true := by simpa using h10'
          have hR2 : Hid (Left s.data.toList L (p + 1)) := by
            have := hR'.out
            rw [T_blank sdB _ p hbk] at this
            exact this
          clear hR' hdr
          go_wp2
          go_step3
          refine ⟨⟨rfl, p + 1, v, L, ⟨rfl, rfl, rfl, rfl, rfl, rfl⟩, by omega, by omega, hB, hz, hT, hO, hR2⟩, ?_⟩
          simp [intAt]
          omega
        · have h10' : ¬ ((s[p].toNat : Nat) : Int) = 10 := by omega
          have hbk : blk s[p] = false := by simp [blk, h10, h32]
          have hb32 : ((s[p].toNat : Int) == 32) = false := by simpa using h32'
          have hb10 : ((s[p].toNat : Int) == 10) = false := by simpa using h10'
          go_wp2_with fail
          refine (TK.out p W hlt (HP.out.below hB) (HE.out.below hB h8) (by omega)).mono ?_
          rintro e w1 ⟨K, at_, k, n, d, x, S, ok, rfl, hb1, hk⟩
          obtain ⟨K0, at0, k0, n0, d0, x0, S0, hT0⟩ := hT.out
          have R1 : Hid (BlkT w1 w.heap.size K0 at0 x0 k0 n0 d0 S0) := hT0.below hb1 hz
          have B1 : Below w.heap.size w w1 := hB.trans (hb1.mono hB.size)
          have O1 : Hid (OwnT7 (w.heap.size + 1) v L w1) := own_bel7 hO.out hb1
          have z1 : w.heap.size < w1.heap.size := by have := hb1.size; omega
          clear hT hT0 hO hb1 hB hz
          obtain ⟨r0, r1, r2, r3, r4, r5, r6, q0, q1, q2, q3, q4, q5, q6⟩ := R1.out
          go_upto_region 12 with fail
          refine wp_world ?_
          intro W2 hW2
          have R2 : Hid (BlkT W2 w.heap.size K at_ x k n d S) := by rw [hW2]; exact R1.out.seven
          have B2 : Below w.heap.size w W2 := by rw [hW2]; exact below7 B1 (Nat.le_refl _) _ _ _ _ _ _ _
          have O2 : Hid (OwnT7 (w.heap.size + 1) v L W2) := by rw [hW2]; exact own_set (own_set (own_set (own_set (own_set (own_set (own_set O1.out (by omega)) (by omega)) (by omega)) (by omega)) (by omega)) (by omega)) (by omega)
          have z2 : w.heap.size < W2.heap.size := by rw [hW2]; simpa using z1
          clear hW2 R1 B1 O1 z1 r0 r1 r2 r3 r4 r5 r6 q0 q1 q2 q3 q4 q5 q6
          cases ok
          · have hnf : ¬ fine sdB (s[p] :: s.data.toList.drop (p + 1)) := by
              rw [← hdr]; intro h; have := hk.out.1.2 h; cases this
            have hR2 := hR'.out
            rw [T_none sdB p hbk hnf] at hR2
            go_wp2
            simp only [Exit.jumps]
            refine bodyPost_ret (by simp [results, Tryz.results76, go_sem]; try rfl) rfl ?_
            exact ⟨B2, .inl ⟨p, by rw [hR2], rfl⟩⟩
          · obtain ⟨k1, k2, k3, k4, k5⟩ := hk.out.2 rfl
            have hf : fine sdB (s[p] :: s.data.toList.drop (p + 1)) := by rw [← hdr]; exact hk.out.1.1 rfl
            have hxl : x.data.toList.length = x.size := by simp
            have hbn : (beh (s.data.toList.drop p)).2 = x.size := by
              have h1 : (tokAt sdB (s.data.toList.drop p) p).x.length = (beh (s.data.toList.drop p)).2 := by
                have := beh_le (s.data.toList.drop p) (by rw [hdr]; exact hf.1)
                show ((s.data.toList.drop p).take _).length = _
                simp at this ⊢
                omega
              rw [k1] at h1
              rw [← h1]; exact hxl
            have hR2 : Hid (Left s.data.toList (L ++ [⟨K.toNat, at_.toNat, x.data.toList, ⟨k, n, d, S⟩⟩]) (p + x.size)) := by
              have h := hR'.out
              rw [T_tok sdB p hbk hf, ← hdr, k1, hbn, List.drop_drop] at h
              show T sdB _ 0 = _
              rw [h]
              simp
            have hnews : Hid ([.int .i64 K, .int .i64 at_, .string x, .int .i64 k, .int .i64 n, .int .i64 d, .string S] = tcells ⟨K.toNat, at_.toNat, x.data.toList, ⟨k, n, d, S⟩⟩) := by
              show _ = [Value.int .i64 (K.toNat : Int), .int .i64 (at_.toNat : Int), .string ⟨x.data.toList.toArray⟩, .int .i64 k, .int .i64 n, .int .i64 d, .string S]
              rw [← k2, ← show at_ = at_.toNat by omega]
            clear hk hR' hf hdr hbn k1 k2 k3
            obtain ⟨r0, r1, r2, r3, r4, r5, r6, q0, q1, q2, q3, q4, q5, q6⟩ := R2.out
            have HK : Hid (∀ q, v.ownBlock = some q → w.heap.size + 1 ≤ q) := fun q hq => (World.ownsRow.lt O2.out q hq).1
            go_wp2_with (at_builtin; refine wpList_append_own _ rfl (.tmp 38) (.tmp 40) 101 rfl (w.heap.size + 1) 109 i0 (.agg #[.int .i64 0, .int .i64 0, .string ⟨#[]⟩, .int .i64 0, .int .i64 0, .int .i64 0, .string ⟨#[]⟩]) 7 72 Tryz.underlying101 hi hz0 hz1 hz2 rfl (by decide) _ _ _ rfl (World.ownsRow.alloc O2.out _) ⟨W2.heap.size, 0, none⟩ 1 1 [.int .i64 K, .int .i64 at_, .string x, .int .i64 k, .int .i64 n, .int .i64 d, .string S] rfl rfl ?c1 ?c2 (by unfold maxLen; omega) (by omega) (by simp; omega) ?grow)
            case c1 => (intro j u hj; rw [Addr.add_lit]; (rcases j with _ | _ | _ | _ | _ | _ | _ | j) <;> simp at hj <;> subst hj <;> simp (maxDischargeDepth := 12) [go_sem])
            case c2 => (intro u hu; simp at hu; rcases hu with rfl | rfl | rfl | rfl | rfl | rfl | rfl <;> rfl)
            case grow =>
              intro v' w3 h2 h3 _
              have O3 : Hid (OwnT7 (w.heap.size + 1) v' (L ++ [⟨K.toNat, at_.toNat, x.data.toList, ⟨k, n, d, S⟩⟩]) w3) := by
                show w3.ownsRow _ _ _ _ _ _
                rw [← flatT_more, ← hnews.out, List.length_append]
                exact h2
              have G3 : Below (w.heap.size + 1) W2 w3 := Below.grown ((Below.refl _ W2).alloc (by omega) _) h3 (by simp; omega) HK.out
              have R3 : Hid (BlkT w3 w.heap.size K at_ x k n d S) := R2.out.below G3 (by omega)
              have B3 : Below w.heap.size w w3 := B2.trans (G3.mono (by omega))
              have z3 : w.heap.size < w3.heap.size := by have := G3.size; omega
              clear h2 h3 G3 HK O2 R2 B2 r0 r1 r2 r3 r4 r5 r6 q0 q1 q2 q3 q4 q5 q6 hnews
              obtain ⟨r0, r1, r2, r3, r4, r5, r6, q0, q1, q2, q3, q4, q5, q6⟩ := R3.out
              have hxs : (x.size : Int) ≤ 16384 := by omega
              go_wp2
              go_step3
              refine ⟨⟨rfl, p + x.size, v', _, ⟨rfl, rfl, rfl, rfl, rfl, rfl⟩, by omega, by simp; omega, B3, z3, ⟨_, _, _, _, _, _, _, R3.out⟩, O3, hR2⟩, ?_⟩
              simp [intAt]
              omega
  · intro PS
    go_wp2
    rename_i hK
    refine wp_label (hK _ _ (PS 0 _ _ _ ⟨rfl, 0, .slice none 0 0, [], ⟨rfl, rfl, rfl, rfl, rfl, rfl⟩, Nat.zero_le _, Nat.le_refl _, (Below.refl _ w).alloc (Nat.le_refl _) _, by simp, ⟨0, 0, 0, 0, 0, ⟨#[]⟩, ⟨#[]⟩, ?_⟩, ⟨rfl, .inl ⟨rfl, rfl⟩⟩, ?_⟩ rfl))
    · constructor <;> simp (maxDischargeDepth := 16) [go_sem]
    · show T sdB _ 0 = _
      simp

end Go.Proofs.YticmebamclacaaaGreatDoor

namespace Go.Proofs.YticmebamclacaaaGreatDoor
open Go.RowKit LX Go.Shelf
set_option linter.unusedVariables false

/-- A token's cells. -/
def TokC (w : World) (b o : Nat) (t : Tok Val) : Prop := w.cell? ⟨b, o, none⟩ = some (.int .i64 t.k) ∧ w.cell? ⟨b, o + 1, none⟩ = some (.int .i64 t.at_) ∧ w.cell? ⟨b, o + 2, none⟩ = some (.string ⟨t.x.toArray⟩) ∧ w.cell? ⟨b, o + 3, none⟩ = some (.int .i64 t.v.k) ∧ w.cell? ⟨b, o + 4, none⟩ = some (.int .i64 t.v.n) ∧ w.cell? ⟨b, o + 5, none⟩ = some (.int .i64 t.v.d) ∧ w.cell? ⟨b, o + 6, none⟩ = some (.string t.v.s)
theorem TokC.below {w w' : World} {b o B : Nat} {t : Tok Val} (h : TokC w b o t) (hb : Below B w w') (hB : b < B) : TokC w' b o t := by
  obtain ⟨h0, h1, h2, h3, h4, h5, h6⟩ := h
  exact ⟨(hb.cell (p := ⟨b, _, none⟩) hB).trans h0, (hb.cell (p := ⟨b, _, none⟩) hB).trans h1, (hb.cell (p := ⟨b, _, none⟩) hB).trans h2, (hb.cell (p := ⟨b, _, none⟩) hB).trans h3, (hb.cell (p := ⟨b, _, none⟩) hB).trans h4, (hb.cell (p := ⟨b, _, none⟩) hB).trans h5, (hb.cell (p := ⟨b, _, none⟩) hB).trans h6⟩
/-- Tokens lie in a slice. -/
def ToksAt (w : World) (v : Value) (L : List (Tok Val)) : Prop := ∃ p c, v = .slice p L.length c ∧ L.length ≤ c ∧ (L = [] ∨ ∃ b off, p = some ⟨b, off, none⟩ ∧ b < w.heap.size ∧ ∀ i (h : i < L.length), TokC w b (off + i * 7) L[i])
theorem ToksAt.below {w w' : World} {v : Value} {L : List (Tok Val)} (h : ToksAt w v L) (hb : Below w.heap.size w w') : ToksAt w' v L := by
  obtain ⟨p, c, e, hc, h | ⟨b, off, h1, h2, h3⟩⟩ := h
  · exact ⟨p, c, e, hc, Or.inl h⟩
  · exact ⟨p, c, e, hc, Or.inr ⟨b, off, h1, Nat.lt_of_lt_of_le h2 hb.size, fun i hi => (h3 i hi).below hb h2⟩⟩
theorem ToksAt.form {w : World} {v : Value} {L : List (Tok Val)} (h : ToksAt w v L) : ∃ p c, v = .slice p L.length c ∧ L.length ≤ c ∧ ∀ i (hi : i < L.length), ∃ b off, p = some ⟨b, off, none⟩ ∧ b < w.heap.size ∧ TokC w b (off + i * 7) L[i] := by
  obtain ⟨p, c, e, hc, h | ⟨b, off, h1, h2, h3⟩⟩ := h
  · exact ⟨p, c, e, hc, fun i hi => by subst h; simp at hi⟩
  · exact ⟨p, c, e, hc, fun i hi => ⟨b, off, h1, h2, h3 i hi⟩⟩
/-- What is left behind the first k. -/
theorem ToksAt.drop {w : World} {b off n c : Nat} {L : List (Tok Val)} (h : ToksAt w (.slice (some ⟨b, off, none⟩) n c) L) (k : Nat) (hk : k ≤ L.length) (p : Option Addr) (hp : k < L.length → p = some ⟨b, off + k * 7, none⟩) : ToksAt w (.slice p (L.length - k) (c - k)) (L.drop k) := by
  obtain ⟨p', c', e, hc, h⟩ := h
  injection e with e1 e2 e3
  subst e1 e3
  refine ⟨p, c - k, by rw [List.length_drop], by rw [List.length_drop]; omega, ?_⟩
  rcases h with h | ⟨b', off', h1, h2, h3⟩
  · exact Or.inl (by rw [h]; simp)
  · injection h1 with h1
    injection h1 with q1 q2 q3
    subst q1 q2
    by_cases hl : k < L.length
    · refine Or.inr ⟨b, off + k * 7, hp hl, h2, fun i hi => ?_⟩
      rw [List.length_drop] at hi
      have := h3 (k + i) (by omega)
      rw [List.getElem_drop]
      rw [show off + k * 7 + i * 7 = off + (k + i) * 7 by omega]
      exact this
    · exact Or.inl (List.drop_eq_nil_of_le (by omega))
theorem flatT_getX (L : List (Tok Val)) (i j : Nat) (hi : i < L.length) (hj : j < 7) : (flatT L)[i * 7 + j]? = (tcells L[i])[j]? := by
  induction L generalizing i with
  | nil => simp at hi
  | cons t L ih =>
    have e : flatT (t :: L) = tcells t ++ flatT L := rfl
    have hl : (tcells t).length = 7 := rfl
    rw [e]
    cases i with
    | zero => rw [List.getElem?_append_left (by omega)]; simp
    | succ i =>
      rw [List.getElem?_append_right (by omega), hl, show (i + 1) * 7 + j - 7 = i * 7 + j by omega, ih i (by simpa using hi)]
      simp
theorem OwnT7.at {B : Nat} {v : Value} {L : List (Tok Val)} {w : World} (h : OwnT7 B v L w) : ToksAt w v L := by
  have h' : w.ownsRow B 109 7 v L.length (flatT L) := h
  rcases h'.2 with ⟨rfl, hn⟩ | ⟨g, cap, cur, rfl, hb, hg, hc, hd, he⟩
  · exact ⟨none, 0, by rw [hn], by omega, Or.inl (List.length_eq_zero_iff.1 hn)⟩
  · refine ⟨_, cap, rfl, ?_, Or.inr ⟨g, 0, rfl, (Array.getElem?_eq_some_iff.1 hg).1, fun i hi => ?_⟩⟩
    · omega
    · have k : ∀ j, j < 7 → w.cell? ⟨g, 0 + i * 7 + j, none⟩ = (tcells L[i])[j]? := fun j hj => by
        rw [Nat.zero_add, h'.cellAt _ (by omega)]
        exact flatT_getX L i j hi hj
      exact ⟨k 0 (by omega), k 1 (by omega), k 2 (by omega), k 3 (by omega), k 4 (by omega), k 5 (by omega), k 6 (by omega)⟩

/-- Why a line is not cut into tokens; its tokens. -/
def cutE (s : ByteArray) : Int := if 4096 < s.size then 2 else if (T sdB s.data.toList 0).2 = none then 0 else 50
def tks (s : ByteArray) : List (Tok Val) := (T sdB s.data.toList 0).1

set_option maxRecDepth 100000 in
set_option maxHeartbeats 2000000 in
theorem cut_any (s : ByteArray) (w : World) (ht : Pow w) (he : Errs w) (h8 : 9 ≤ w.heap.size) :
    Calls Tryz.prog 55 #[.string s] w fun r w' => ∃ p n c, r = .returned (.tuple #[.slice p n c, errV (cutE s)]) ∧ Below w.heap.size w w' ∧ (cutE s = 0 → ToksAt w' (.slice p n c) (tks s)) := by
  by_cases h : 4096 < s.size
  · have hE : Hid (cutE s = 2) := if_pos h
    have h' : (4096 : Int) < s.size := by omega
    rw [hE.out]
    go_enter Tryz.func55, Tryz.ntmps55
    go_wp2
    go_ret2
    exact ⟨_, _, _, rfl, Below.refl _ _, fun h => by cases h⟩
  · have h' : ¬ (4096 : Int) < s.size := by omega
    have ct : Hid (Calls Tryz.prog 76 #[.string s] w fun e w' => Below w.heap.size w w' ∧ ((∃ p : Nat, (T sdB s.data.toList 0).2 = some p ∧ e = .returned (.tuple #[.slice none 0 0, .int .i64 50, .int .i64 p])) ∨ ((T sdB s.data.toList 0).2 = none ∧ ∃ v, e = .returned (.tuple #[v, .int .i64 0, .int .i64 0]) ∧ OwnT7 (w.heap.size + 1) v (T sdB s.data.toList 0).1 w'))) := tokens_run s w (by omega) ht he h8
    have hE : Hid (cutE s = if (T sdB s.data.toList 0).2 = none then 0 else 50) := if_neg h
    have cf : Hid (∀ (C : Int) (W : World), Calls Tryz.prog 68 #[.int .i64 C] W fun r w' => r = .returned (errV C) ∧ w' = W) := fun C W => failed_any C W
    clear ht he h8 h
    go_enter Tryz.func55, Tryz.ntmps55
    go_wp2_with fail
    refine ct.out.mono ?_
    rintro e w1 ⟨hB, ⟨q, hq, rfl⟩ | ⟨hq, v, rfl, hO⟩⟩
    · have hE2 : Hid (cutE s = 50) := by have h := hE.out; rwa [if_neg (by rw [hq]; simp)] at h
      clear ct hE hq
      go_wp2_with fail
      refine (cf.out 50 _).mono ?_
      rintro e w2 ⟨rfl, rfl⟩
      go_wp2
      go_ret2
      exact ⟨_, _, _, by rw [hE2.out]; rfl, hB, fun h => by rw [hE2.out] at h; cases h⟩
    · have hE2 : Hid (cutE s = 0) := by have h := hE.out; rwa [if_pos hq] at h
      have hT : Hid (ToksAt w1 v (tks s)) := OwnT7.at hO
      obtain ⟨p, c, rfl, -⟩ := hT.out.form
      generalize (tks s).length = n at *
      clear ct hE hq hO
      go_wp2_with fail
      refine (cf.out 0 _).mono ?_
      rintro e w2 ⟨rfl, rfl⟩
      go_wp2
      go_ret2
      exact ⟨_, _, _, by rw [hE2.out]; rfl, hB, fun _ => hT.out⟩

end Go.Proofs.YticmebamclacaaaGreatDoor

namespace Go.Proofs.YticmebamclacaaaGreatDoor
open Go.RowKit Go.Shelf
set_option linter.unusedVariables false

theorem grownBy_setX (w : World) (b i : Nat) (v : Value) : w.grownBy (w.setCell ⟨b, i, none⟩ v) (some b) :=
  ⟨rfl, rfl, rfl, by simp [World.setCell], fun k _ hk => Below.heap_setCell _ _ _ _ (fun e => hk (by simp [e]))⟩
theorem own_neX {w : World} {B e e' size n T : Nat} {v : Value} {xs : List Value} {cur : Array Value} {fr : Nat × Nat} (h : w.ownsRow B e size v n xs) (hT : w.heap[T]? = some (.cells cur e' fr)) (hne : e ≠ e') : v.ownBlock ≠ some T := by
  intro hv
  obtain ⟨-, ⟨rfl, -⟩ | ⟨g, cap, cur', rfl, -, hg, -⟩⟩ := h
  · cases hv
  · injection hv with hv
    have hv' : g = T := hv
    subst hv'
    rw [hg] at hT
    injection hT with hT
    injection hT with _ h2 _
    exact hne h2
/-- Blocks that are not bytes, and not the builder's own, stay. -/
def KeepB (b : Nat) (w w' : World) : Prop := ∀ k cs t fz, k < w.heap.size → k ≠ b → w.heap[k]? = some (.cells cs t fz) → t ≠ 5 → w'.heap[k]? = w.heap[k]?
theorem KeepB.refl (b : Nat) (w : World) : KeepB b w w := fun _ _ _ _ _ _ _ _ => rfl

theorem ckK (B b : Nat) (bs : List Value) (w : World) (h : Lib.IsBuilder 62 5 B b bs w) :
    Calls Tryz.prog 53 #[.pointer (some ⟨b, 0, none⟩)] w fun e w' => e = .returned (.tuple #[]) ∧ Lib.BuilderAt 62 5 B b (.pointer (some ⟨b, 0, none⟩)) bs w' ∧ Below B w w' ∧ (∀ k, k < w.heap.size → k ≠ b → w'.heap[k]? = w.heap[k]?) := by
  rcases h with h | h
  · refine (ck_fresh b w h.cell0 h.shape h.frozen0).mono ?_
    rintro e w' ⟨rfl, rfl⟩
    exact ⟨rfl, h.used _, (Below.refl B w).setCell (p := ⟨b, 0, none⟩) h.1 _, fun k hk hb => (grownBy_setX w b 0 _).block k hk (fun e => hb (by injection e))⟩
  · refine (ck_used b w h.cell0).mono ?_
    rintro e w' ⟨rfl, rfl⟩
    exact ⟨rfl, h, Below.refl B _, fun _ _ _ => rfl⟩

set_option maxHeartbeats 2000000 in
set_option maxRecDepth 100000 in
theorem wstrK (B b : Nat) (bs : List Value) (s : ByteArray) (w : World) (h : Lib.IsBuilder 62 5 B b bs w) (hlen : bs.length + s.size ≤ 140737488355328) (hBw : B ≤ w.heap.size) :
    Calls Tryz.prog 29 #[.pointer (some ⟨b, 0, none⟩), .string s] w fun e w' => e = .returned (.tuple #[.int .i64 s.size, .nilIface]) ∧ Lib.BuilderAt 62 5 B b (.pointer (some ⟨b, 0, none⟩)) (bs ++ Lib.strCells s) w' ∧ Below B w w' ∧ KeepB b w w' := by
  obtain ⟨i0, hi, hz0, hz1, hz2⟩ := info_parts inB
  go_enter Tryz.func29, Tryz.ntmps29
  go_wp2_with (go_at_call 53; refine (ckK B b bs _ h).mono ?_)
  rintro e w1 ⟨rfl, ⟨hB, v, hbk, hown, hne⟩, hb1, hk1⟩
  have s1 := hb1.size
  have c1 : w1.cell? ⟨b, 1, none⟩ = some v := by rw [Lib.cell_of_heap hbk]; rfl
  go_wp2_with (at_builtin; refine Lib.wpList_append_own_string _ rfl _ _ 60 9 rfl B 5 i0 Tryz.underlying60 Tryz.underlying9 hi hz0 hz1 hz2 _ _ _ rfl hown s rfl ?c3 ?c4 ?c5 ?_)
  case c3 => unfold maxLen; omega
  case c4 => omega
  case c5 => omega
  intro v' w2 hown' hgrow _
  have hlt : b < w1.heap.size := Lib.BuilderAt.lt ⟨hB, v, hbk, hown, hne⟩
  have hb2 : w2.heap[b]? = some (.cells #[.pointer (some ⟨b, 0, none⟩), v] 62 (0, 0)) := by
    rw [hgrow.block b hlt (fun e => hne e.symm)]
    exact hbk
  have d1 : w2.cell? ⟨b, 1, none⟩ = some v := by rw [Lib.cell_of_heap hb2]; rfl
  have f1 : w2.frozen? ⟨b, 1, none⟩ = false := Lib.frozen_of_heap hb2 1
  have hkeep : Hid (∀ u : Value, KeepB b w (w2.setCell ⟨b, 1, none⟩ u)) := fun u k cs t fz hk hkb hc ht => by
    have e1 := hk1 k hk hkb
    have hw1 : k < w1.heap.size := Nat.lt_of_lt_of_le hk (by have := hb1.size; omega)
    have e2 := hgrow.block k hw1 (fun e => own_neX hown (e1.trans hc) (fun e' => ht e'.symm) e.symm)
    have hw2 : k < w2.heap.size := Nat.lt_of_lt_of_le hw1 hgrow.size
    exact ((grownBy_setX w2 b 1 u).block k hw2 (fun e => hkb (by injection e))).trans (e2.trans e1)
  obtain ⟨ao, n', cap, rfl⟩ : ∃ ao n' cap, v' = .slice ao n' cap := by
    rcases hown'.2 with ⟨hv, _⟩ | ⟨g, cap, cur, hv, _⟩
    · exact ⟨_, _, _, hv⟩
    · exact ⟨_, _, _, hv⟩
  go_wp2
  go_ret2
  refine ⟨rfl, ?_, ?_, hkeep.out _⟩
  · exact Lib.BuilderAt.put (T := 62) (e := 5) hB hb2 (bs' := bs ++ Lib.strCells s) (by simpa [Lib.strCells_length] using hown') (by decide)
  · exact (hb1.grown hgrow (by omega) (fun k hk => (hown.lt k hk).1)).setCell (p := ⟨b, 1, none⟩) hB _
end Go.Proofs.YticmebamclacaaaGreatDoor

namespace Go.Proofs.YticmebamclacaaaGreatDoor
open Go.RowKit LX Go.Shelf
set_option linter.unusedVariables false

/-- A builder that holds some bytes. -/
def Bld (B b : Nat) (l : List UInt8) (w : World) : Prop := Lib.IsBuilder 62 5 B b (Lib.byteCells l) w
theorem wsB (B b : Nat) (l : List UInt8) (s : ByteArray) (w : World) (h : Bld B b l w) (hlen : l.length + s.size ≤ 140737488355328) (hBw : B ≤ w.heap.size) :
    Calls Tryz.prog 29 #[.pointer (some ⟨b, 0, none⟩), .string s] w fun e w' => e = .returned (.tuple #[.int .i64 s.size, .nilIface]) ∧ Bld B b (l ++ s.data.toList) w' ∧ Below B w w' ∧ KeepB b w w' := by
  refine (wstrK B b _ s w h (by rw [Lib.byteCells_length]; exact hlen) hBw).mono ?_
  rintro e w' ⟨rfl, h1, h2, h3⟩
  refine ⟨rfl, ?_, h2, h3⟩
  unfold Bld
  rw [Lib.byteCells_append]
  exact Or.inr h1
theorem wbB (B b : Nat) (l : List UInt8) (c : UInt8) (w : World) (h : Bld B b l w) (hlen : l.length + 1 ≤ 140737488355328) (hBw : B ≤ w.heap.size) :
    Calls Tryz.prog 31 #[.pointer (some ⟨b, 0, none⟩), .int .u8 c.toNat] w fun e w' => e = .returned .nilIface ∧ Bld B b (l ++ [c]) w' ∧ Below B w w' := by
  refine (wbyte B b _ c.toNat w h (by rw [Lib.byteCells_length]; exact hlen) hBw).mono ?_
  rintro e w' ⟨rfl, h1, h2⟩
  refine ⟨rfl, ?_, h2⟩
  unfold Bld
  rw [Lib.byteCells_append]
  exact Or.inr h1
theorem Bld.lt {B b : Nat} {l : List UInt8} {w : World} (h : Bld B b l w) : b < w.heap.size := by
  rcases h with h | h
  · exact Lib.BuilderAt.lt h
  · exact Lib.BuilderAt.lt h
theorem own_belX {w w' : World} {B e size n : Nat} {v : Value} {xs : List Value} (h : w.ownsRow B e size v n xs) (hb : Below w.heap.size w w') : w'.ownsRow B e size v n xs :=
  World.ownsRow.kept h (row := none) ⟨hb.os, hb.tape, hb.output, hb.size, fun k hk _ => hb.block k hk⟩ (by cases hv : v.ownBlock with | none => exact Or.inl rfl | some k => exact Or.inr (by intro h; cases h))
/-- What a callee that only makes new memory leaves of a builder. -/
theorem Bld.below {B b : Nat} {l : List UInt8} {w w' : World} (h : Bld B b l w) (hb : Below w.heap.size w w') : Bld B b l w' := by
  rcases h with h | h
  · have hl := Lib.BuilderAt.lt h
    obtain ⟨hB, v, hbk, hown, hne⟩ := h
    exact Or.inl ⟨hB, v, (hb.block b hl).trans hbk, own_belX hown hb, hne⟩
  · have hl := Lib.BuilderAt.lt h
    obtain ⟨hB, v, hbk, hown, hne⟩ := h
    exact Or.inr ⟨hB, v, (hb.block b hl).trans hbk, own_belX hown hb, hne⟩

def Val.text (v : Val) : List UInt8 := vtext v.k v.n v.d v.s
theorem Val.text_len {v : Val} (h : v.may = 0) (f : v.Fits) : v.text.length ≤ 300 := by
  have hs := chk_size h
  unfold Val.text vtext
  split
  · have := Lib.itoa_length_le v.n f.n1 f.n2; omega
  · split
    · have := Lib.itoa_length_le v.n f.n1 f.n2
      have := Lib.itoa_length_le v.d f.d1 f.d2
      simp; omega
    · have := inside_len v.s.data.toList
      have e : v.s.data.toList.length = v.s.size := by simp
      unfold quoted
      simp; omega
/-- The text of an event's values, and of an event. -/
def argsT : List Val → List UInt8
  | [] => []
  | v :: l => (32 :: v.text) ++ argsT l
def evtT (e : Evt) : List UInt8 := (32 :: 40 :: e.name.data.toList) ++ (argsT e.args ++ [41])
def wevE (e : Evt) : Int := if nameB e.name = true then valsE e.args else 1
theorem argsT_snoc (l : List Val) (v : Val) : argsT (l ++ [v]) = argsT l ++ (32 :: v.text) := by
  induction l with
  | nil => simp [argsT]
  | cons x l ih => simp only [List.cons_append, argsT, ih, List.append_assoc]
theorem argsT_len (l : List Val) (h : ∀ v ∈ l, v.may = 0 ∧ v.Fits) : (argsT l).length ≤ 301 * l.length := by
  induction l with
  | nil => simp [argsT]
  | cons x l ih =>
    have h1 := Val.text_len (h x (by simp)).1 (h x (by simp)).2
    have h2 := ih (fun v hv => h v (by simp [hv]))
    simp only [argsT, List.length_append, List.length_cons]
    omega
theorem heap_allocX (w : World) (o : Obj) : (w.alloc o).heap[w.heap.size]? = some o := by
  show (w.heap.push o)[w.heap.size]? = some o
  rw [Array.getElem?_push, if_pos rfl]
theorem valsE_all {l : List Val} (h : valsE l = 0) : ∀ v ∈ l, v.may = 0 := by
  induction l with
  | nil => intro v hv; cases hv
  | cons x l ih =>
    unfold valsE at h
    by_cases hx : x.may = 0
    · rw [if_pos hx] at h
      intro v hv
      rcases List.mem_cons.1 hv with rfl | hv
      · exact hx
      · exact ih h v hv
    · rw [if_neg hx] at h; exact absurd h hx

set_option maxRecDepth 100000 in
set_option maxHeartbeats 4000000 in
theorem wev_any (B bb : Nat) (l : List UInt8) (e : Evt) (V : Value) (w0 w : World) (h0 : Below w0.heap.size w0 w) (hB0 : w0.heap.size ≤ B) (hBw : B ≤ w.heap.size) (h : Bld B bb l w) (hV : RowAt w0 V e.args) (ht : Pow w0) (fx : ∀ v ∈ e.args, v.Fits) (lv : e.args.length ≤ 9223372036854775807) (hl : l.length + 301 * e.args.length + e.name.size + 400 ≤ 140737488355328) :
    Calls Tryz.prog 61 #[.pointer (some ⟨bb, 0, none⟩), .agg #[.string e.name, V]] w fun r w' => r = .returned (errV (wevE e)) ∧ Below B w w' ∧ (wevE e = 0 → Bld B bb (l ++ evtT e) w') := by
  have cN : Hid (∀ W : World, Calls Tryz.prog 73 #[.string e.name] W fun e' w' => e' = .returned (.bool (nameB e.name)) ∧ w' = W) := fun W => name_any e.name W
  obtain ⟨pv, cv, rfl, HY0⟩ := hV.formX
  have HY : Hid (∀ i (hi : i < e.args.length), ∃ b off, pv = some ⟨b, off, none⟩ ∧ b < w0.heap.size ∧ w0.cell? ⟨b, off + i * 4, none⟩ = some (.int .i64 e.args[i].k) ∧ w0.cell? ⟨b, off + i * 4 + 1, none⟩ = some (.int .i64 e.args[i].n) ∧ w0.cell? ⟨b, off + i * 4 + 2, none⟩ = some (.int .i64 e.args[i].d) ∧ w0.cell? ⟨b, off + i * 4 + 3, none⟩ = some (.string e.args[i].s)) := HY0
  have HT : Hid (Pow w0) := ht
  have HB : Hid (Bld B bb l w) := h
  have hbb := h.lt
  have hE0 : Hid (wevE e = if nameB e.name = true then valsE e.args else 1) := rfl
  clear hV HY0 ht h
  obtain ⟨m, em⟩ : ∃ m : Nat, Hid (e.args.length = m) := ⟨_, rfl⟩
  obtain ⟨X, eX⟩ : ∃ X : ByteArray, Hid (e.name = X) := ⟨_, rfl⟩
  obtain ⟨E, eE⟩ : ∃ E : Int, Hid (wevE e = E) := ⟨_, rfl⟩
  have hev : Hid (evtT e = (32 :: 40 :: X.data.toList) ++ (argsT e.args ++ [41])) := by unfold Hid evtT; rw [eX.out]
  rw [eX.out] at cN
  rw [eE.out, eX.out] at hE0
  rw [em.out, eX.out] at hl
  rw [em.out] at lv
  rw [eE.out, eX.out, em.out]
  go_enter Tryz.func61, Tryz.ntmps61
  cases hN : nameB X with
  | false =>
    have hE : Hid (E = 1) := by have h := hE0.out; rwa [if_neg (by rw [hN]; decide)] at h
    rw [hN] at cN
    go_wp2_with fail
    refine (cN.out _).mono ?_
    rintro e' w1 ⟨rfl, rfl⟩
    go_wp2
    go_ret
    exact ⟨retE hE.out rfl, Below.mono (B := w.heap.size) (by go_grown) hBw, fun h => by rw [hE.out] at h; cases h⟩
  | true =>
    have hE : Hid (E = valsE e.args) := by have h := hE0.out; rwa [if_pos hN] at h
    rw [hN] at cN
    clear hE0 hN
    obtain ⟨S, eS⟩ : ∃ S : ByteArray, Hid (S = (⟨#[32, 40]⟩ : ByteArray) ++ X) := ⟨_, rfl⟩
    have x1 : ∀ W : World, (Op.stringOp .add ⟨#[32, 40]⟩ X).run Tryz.prog W = .ok (.string S) W := fun W => by
      rw [run_string_add_sum W _ _ (by have : (⟨#[32, 40]⟩ : ByteArray).size = 2 := rfl
                                       omega), eS.out]
    have sS : S.size = 2 + X.size := by rw [eS.out, ByteArray.size_append]; rfl
    have lS : Hid (S.data.toList = 32 :: 40 :: X.data.toList) := by unfold Hid; rw [eS.out]; simp
    go_wp2_with fail
    refine (cN.out _).mono ?_
    rintro e' w1 ⟨rfl, rfl⟩
    go_wp2_with fail
    refine (wsB B bb l S _ (HB.out.below (by go_grown)) (by omega) (by simp; omega)).mono ?_
    rintro e' w1 ⟨rfl, hb1, hB1, hK1⟩
    have c1 : w1.cell? ⟨w.heap.size, 1, none⟩ = some (.slice pv m cv) := by
      have hh := hK1 w.heap.size #[.string X, .slice pv m cv] 48 (0, 0) (by simp) (by omega) (heap_allocX _ _) (by decide)
      rw [Lib.cell_of_heap (hh.trans (heap_allocX _ _))]
      rfl
    have K1 : Below B w w1 := Below.trans (Below.mono (B := w.heap.size) (by go_grown) hBw) hB1
    have HB1 : Hid (Bld B bb (l ++ S.data.toList) w1) := hb1
    clear hb1 hB1 hK1 cN HB x1
    go_wp2
    go_loopw [23] (fun i wr => ∃ k : Nat, k ≤ m ∧ i = .int .i64 k ∧ Hid (E = valsE (e.args.drop k)) ∧ Hid (∀ v ∈ e.args.take k, v.may = 0) ∧ Hid (Bld B bb (l ++ S.data.toList ++ argsT (e.args.take k)) wr) ∧ Below B w wr) (fun i _ => m - (intOf i).toNat)
    case atStart => exact ⟨0, Nat.zero_le _, rfl, by rw [List.drop_zero]; exact hE, (fun v hv => by simp at hv), by simpa [argsT, Hid] using HB1.out, K1⟩
    case round =>
      obtain ⟨k, hk, rfl, hr, hok, hbl, hBw2⟩ := hrel
      have hsz : B ≤ wr.heap.size := Nat.le_trans hBw hBw2.size
      have hB0r : Below w0.heap.size w0 wr := h0.trans (hBw2.mono hB0)
      have lT : (argsT (e.args.take k)).length ≤ 301 * k := by
        have h := argsT_len (e.args.take k) (fun v hv => ⟨hok.out v hv, fx v (List.mem_of_mem_take hv)⟩)
        rw [List.length_take, Nat.min_eq_left (by have := em.out; omega)] at h
        exact h
      have lTS : (l ++ S.data.toList ++ argsT (e.args.take k)).length ≤ l.length + (2 + X.size) + 301 * k := by
        have : S.data.toList.length = S.size := by simp
        rw [List.length_append, List.length_append]
        omega
      by_cases hlt : k < m
      · have kx : k < e.args.length := by have := em.out; omega
        obtain ⟨b, off, rfl, hb, r0, r1, r2, r3⟩ := HY.out k kx
        have a0 := (hB0r.cell (p := ⟨b, off + k * 4, none⟩) hb).trans r0
        have a1 := (hB0r.cell (p := ⟨b, off + k * 4 + 1, none⟩) hb).trans r1
        have a2 := (hB0r.cell (p := ⟨b, off + k * 4 + 2, none⟩) hb).trans r2
        have a3 := (hB0r.cell (p := ⟨b, off + k * 4 + 3, none⟩) hb).trans r3
        have f1 := fx e.args[k] (List.getElem_mem kx)
        have hr2 : Hid (E = if e.args[k].may = 0 then valsE (e.args.drop (k + 1)) else e.args[k].may) := by
          have h := hr.out
          rw [List.drop_eq_getElem_cons kx] at h
          exact h
        have hbl2 : Hid (∀ W, Bld B bb (l ++ S.data.toList ++ argsT (e.args.take k) ++ (32 :: e.args[k].text)) W → Bld B bb (l ++ S.data.toList ++ argsT (e.args.take (k + 1))) W) := fun W h => by
          rw [List.take_succ_eq_append_getElem kx, argsT_snoc, ← List.append_assoc]
          exact h
        have hok2 : Hid (e.args[k].may = 0 → ∀ v ∈ e.args.take (k + 1), v.may = 0) := fun hz v hv => by
          rw [List.take_succ_eq_append_getElem kx] at hv
          rcases List.mem_append.1 hv with hv | hv
          · exact hok.out v hv
          · rw [List.mem_singleton] at hv; rw [hv]; exact hz
        clear r0 r1 r2 r3 hr
        have HBL : Hid (Bld B bb (l ++ S.data.toList ++ argsT (e.args.take k)) wr) := hbl
        generalize l ++ S.data.toList ++ argsT (e.args.take k) = G at HBL hbl2 lTS
        generalize e.args[k] = Y at a0 a1 a2 a3 hr2 f1 hbl2 hok2
        obtain ⟨C, eC⟩ : ∃ C : Int, Hid (Y.may = C) := ⟨_, rfl⟩
        have cP : Hid (∀ W : World, Below wr.heap.size wr W → Calls Tryz.prog 92 #[.agg #[.int .i64 Y.k, .int .i64 Y.n, .int .i64 Y.d, .string Y.s]] W fun e w' => e = .returned (.tuple #[.string ⟨(if C = 0 then Y.text else []).toArray⟩, .int .i64 C]) ∧ Below W.heap.size W w') := fun W hW => by
          have h := print_any Y.k Y.n Y.d Y.s W f1.n1 f1.n2 f1.d1 f1.d2 (HT.out.below (hB0r.trans (hW.mono hB0r.size)))
          rw [show chk Y.k Y.n Y.d Y.s = C from eC.out] at h
          exact h
        by_cases hC : C = 0
        · have hr3 : Hid (E = valsE (e.args.drop (k + 1))) := by have h := hr2.out; rwa [if_pos (eC.out.trans hC)] at h
          have tl := Val.text_len (eC.out.trans hC) f1
          have hok3 : Hid (∀ v ∈ e.args.take (k + 1), v.may = 0) := hok2.out (eC.out.trans hC)
          rw [if_pos hC] at cP
          subst hC
          obtain ⟨TX, eT⟩ : ∃ TX : ByteArray, Hid (⟨Y.text.toArray⟩ = TX) := ⟨_, rfl⟩
          obtain ⟨S2, eS2⟩ : ∃ S2 : ByteArray, Hid (S2 = (⟨#[32]⟩ : ByteArray) ++ TX) := ⟨_, rfl⟩
          have sT : TX.size = Y.text.length := by rw [← eT.out]; show Y.text.toArray.size = _; simp
          have x2 : ∀ W : World, (Op.stringOp .add ⟨#[32]⟩ TX).run Tryz.prog W = .ok (.string S2) W := fun W => by
            rw [run_string_add_sum W _ _ (by have : (⟨#[32]⟩ : ByteArray).size = 1 := rfl
                                             omega), eS2.out]
          have sS2 : S2.size = 1 + Y.text.length := by rw [eS2.out, ByteArray.size_append, sT]; rfl
          have lS2 : Hid (S2.data.toList = 32 :: Y.text) := by unfold Hid; rw [eS2.out, ← eT.out]; simp
          rw [eT.out] at cP
          clear hr2 hok2 hok hbl eT eS2 sT
          go_wp2_with fail
          refine (cP.out _ (by go_grown)).mono ?_
          rintro e' w2 ⟨rfl, hb2⟩
          obtain ⟨hB2, -⟩ := bgX (n := wr.heap.size) (W0 := wr) (by go_grown) (by go_size) hb2
          have HB2 : Hid (Bld B bb G w2) := HBL.out.below hB2
          have s2 : B ≤ w2.heap.size := Nat.le_trans hsz hB2.size
          have K2 : Below B w w2 := hBw2.trans (hB2.mono hsz)
          clear a0 a1 a2 a3 cP hb2 hB2 HBL
          go_wp2_with fail
          refine (wsB B bb G S2 _ HB2.out (by omega) s2).mono ?_
          rintro e' w3 ⟨rfl, hb3, hB3, -⟩
          have K3 : Below B w w3 := K2.trans hB3
          rw [lS2.out] at hb3
          have HB3 : Hid (Bld B bb (l ++ S.data.toList ++ argsT (e.args.take (k + 1))) w3) := hbl2.out w3 hb3
          clear HB2 hb3 hB3 x2 hbl2 K2 lTS
          go_wp2
          exact ⟨⟨k + 1, by omega, by go_num, hr3, hok3, HB3, K3⟩, by simp [intOf]; omega⟩
        · have hr3 : Hid (E = C) := by have h := hr2.out; rwa [eC.out, if_neg hC] at h
          have hd : Hid (errV C = .iface 92 (.agg #[.int .i64 C])) := errV_ne hC
          have hC' : (C == 0) = false := by simpa using hC
          rw [if_neg hC] at cP
          clear hr2 hok2 hok hbl hbl2
          go_wp2_with fail
          refine (cP.out _ (by go_grown)).mono ?_
          rintro e' w2 ⟨rfl, hb2⟩
          obtain ⟨hB2, -⟩ := bgX (n := wr.heap.size) (W0 := wr) (by go_grown) (by go_size) hb2
          have K2 : Below B w w2 := hBw2.trans (hB2.mono hsz)
          have hnz : Hid (E ≠ 0) := by rw [hr3.out]; exact hC
          clear a0 a1 a2 a3 cP hb2 hB2 HBL hC
          go_wp2
          go_ret
          exact ⟨retE hr3.out hd.out.symm, K2, fun h => absurd h hnz.out⟩
      · have c2 : ¬ (k : Int) < m := by omega
        have hr3 : Hid (E = 0) := by
          have h := hr.out
          rw [List.drop_eq_nil_of_le (by have := em.out; omega)] at h
          exact h
        have hall : e.args.take k = e.args := List.take_of_length_le (by have := em.out; omega)
        rw [hall] at hbl lTS
        have HBL : Hid (Bld B bb (l ++ S.data.toList ++ argsT e.args) wr) := hbl
        clear hbl hall lT
        go_wp2_with fail
        refine (wbB B bb _ 41 _ HBL.out (by omega) hsz).mono ?_
        rintro e' w3 ⟨rfl, hb3, hB3⟩
        have K3 : Below B w w3 := hBw2.trans hB3
        have HB3 : Hid (Bld B bb (l ++ evtT e) w3) := by
          unfold Hid
          rw [hev.out, ← lS.out, ← List.append_assoc, ← List.append_assoc]
          exact hb3
        clear HBL hb3 hB3 lTS
        go_wp2
        go_ret
        exact ⟨retE hr3.out rfl, K3, fun _ => HB3.out⟩

end Go.Proofs.YticmebamclacaaaGreatDoor

namespace Go.Proofs.YticmebamclacaaaGreatDoor
open Go.RowKit Go.Shelf
set_option linter.unusedVariables false

abbrev hexS : ByteArray := { data := #[48, 49, 50, 51, 52, 53, 54, 55, 56, 57, 97, 98, 99, 100, 101, 102] }

theorem dig_ext (d : Nat) (h : d < 10) : hexS.extract d (d + 1) = ⟨#[UInt8.ofNat (48 + d)]⟩ := by
  match d, h with
  | 0, _ => rfl
  | 1, _ => rfl
  | 2, _ => rfl
  | 3, _ => rfl
  | 4, _ => rfl
  | 5, _ => rfl
  | 6, _ => rfl
  | 7, _ => rfl
  | 8, _ => rfl
  | 9, _ => rfl
theorem dec_last (v : Nat) (h : v < 10) : Lib.decDigits v = [UInt8.ofNat (48 + v % 10)] := by rw [Lib.decDigits_one h, Nat.mod_eq_of_lt h]
theorem dec_more (v : Nat) (h : ¬ v < 10) : Lib.decDigits v = Lib.decDigits (v / 10) ++ [UInt8.ofNat (48 + v % 10)] := by rw [Lib.decDigits, dif_neg h]

set_option maxRecDepth 100000 in
set_option maxHeartbeats 1000000 in
theorem ddec_pos (u : Nat) (w : World) (h2 : u ≤ 9223372036854775807) (hl : (Lib.decDigits u).length ≤ 21) :
    Calls Tryz.prog 45 #[.int .i64 u] w fun e w' => e = .returned (.string ⟨(Lib.decDigits u).toArray⟩) ∧ Below w.heap.size w w' := by
  have HL : Hid ((Lib.decDigits u).length ≤ 21) := hl
  clear hl
  go_enter Tryz.func45, Tryz.ntmps45
  go_wp2
  go_loopw [3, 4] (fun s r wr => ∃ (S : List UInt8) (v : Nat), v ≤ u ∧ s = .string ⟨S.toArray⟩ ∧ r = .int .i64 v ∧ Hid (Lib.decDigits v ++ S = Lib.decDigits u) ∧ Below w.heap.size w wr) (fun _ r _ => (intOf r).toNat)
  case atStart => exact ⟨[], u, Nat.le_refl _, rfl, rfl, (show Lib.decDigits u ++ [] = Lib.decDigits u by simp), Below.refl _ _⟩
  case round =>
    obtain ⟨S, v, hv, rfl, rfl, hS, hB⟩ := hrel
    obtain ⟨q, eq⟩ : ∃ q : Nat, Hid (v % 10 = q) := ⟨_, rfl⟩
    obtain ⟨t, et⟩ : ∃ t : Nat, Hid (v / 10 = t) := ⟨_, rfl⟩
    have hq : q < 10 := by have := eq.out; omega
    have hm : (v : Int) % 10 = (q : Int) := by have := eq.out; omega
    have hd : (v : Int) / 10 = (t : Int) := by have := et.out; omega
    have lS : S.length ≤ 21 := by
      have h1 := congrArg List.length hS.out
      have h2 := HL.out
      simp only [List.length_append] at h1
      omega
    obtain ⟨c, ec⟩ : ∃ c : UInt8, Hid (UInt8.ofNat (48 + q) = c) := ⟨_, rfl⟩
    have x1 : ∀ W : World, (Op.stringOp .add (hexS.extract q (q + 1)) ⟨S.toArray⟩).run Tryz.prog W = .ok (.string ⟨(c :: S).toArray⟩) W := fun W => by
      rw [run_string_add_sum W _ _ (by
        rw [dig_ext q hq]
        have e1 : (⟨#[UInt8.ofNat (48 + q)]⟩ : ByteArray).size = 1 := rfl
        have e2 : (⟨S.toArray⟩ : ByteArray).size = S.length := by show S.toArray.size = _; simp
        omega), dig_ext q hq, ec.out]
      first | rfl | (congr 2; apply ByteArray.ext; simp)
    by_cases ht : t = 0
    · have hE : Hid (c :: S = Lib.decDigits u) := by
        have h1 := hS.out
        rw [dec_last v (by have := et.out; omega), eq.out, ec.out] at h1
        exact h1
      clear hS eq et HL
      subst ht
      rw [hE.out] at x1
      go_wp2
      go_ret
      exact ⟨rfl, hB⟩
    · have ht' : ((t : Int) == 0) = false := by simp; omega
      have hE : Hid (Lib.decDigits t ++ (c :: S) = Lib.decDigits u) := by
        have h1 := hS.out
        rw [dec_more v (by have := et.out; omega), eq.out, et.out, ec.out, List.append_assoc] at h1
        exact h1
      have hlt : t < v := by have := et.out; omega
      clear hS eq et HL
      go_wp2
      exact ⟨⟨_, t, by omega, rfl, rfl, hE, hB⟩, by simp [intOf]; omega⟩

set_option maxRecDepth 100000 in
set_option maxHeartbeats 1000000 in
theorem ddec_neg (u : Nat) (w : World) (h2 : u ≤ 9223372036854775808) (h0 : 0 < u) (hl : (Lib.decDigits u).length ≤ 21) :
    Calls Tryz.prog 45 #[.int .i64 (-(u : Int))] w fun e w' => e = .returned (.string ⟨(45 :: Lib.decDigits u).toArray⟩) ∧ Below w.heap.size w w' := by
  have HL : Hid ((Lib.decDigits u).length ≤ 21) := hl
  clear hl
  go_enter Tryz.func45, Tryz.ntmps45
  go_wp2
  go_loopw [3, 4] (fun s r wr => ∃ (S : List UInt8) (v : Nat), v ≤ u ∧ s = .string ⟨S.toArray⟩ ∧ r = .int .i64 (-(v : Int)) ∧ Hid (Lib.decDigits v ++ S = Lib.decDigits u) ∧ Below w.heap.size w wr) (fun _ r _ => (intOf r).natAbs)
  case atStart => exact ⟨[], u, Nat.le_refl _, rfl, rfl, (show Lib.decDigits u ++ [] = Lib.decDigits u by simp), Below.refl _ _⟩
  case round =>
    obtain ⟨S, v, hv, rfl, rfl, hS, hB⟩ := hrel
    obtain ⟨q, eq⟩ : ∃ q : Nat, Hid (v % 10 = q) := ⟨_, rfl⟩
    obtain ⟨t, et⟩ : ∃ t : Nat, Hid (v / 10 = t) := ⟨_, rfl⟩
    have hq : q < 10 := by have := eq.out; omega
    have hm : (-(v : Int)).tmod 10 = -(q : Int) := by rw [Int.neg_tmod]; have := eq.out; rw [← this]; rfl
    have hd : (-(v : Int)).tdiv 10 = -(t : Int) := by rw [Int.neg_tdiv]; have := et.out; rw [← this]; rfl
    have lS : S.length ≤ 21 := by
      have h1 := congrArg List.length hS.out
      have h2 := HL.out
      simp only [List.length_append] at h1
      omega
    obtain ⟨c, ec⟩ : ∃ c : UInt8, Hid (UInt8.ofNat (48 + q) = c) := ⟨_, rfl⟩
    have x1 : ∀ W : World, (Op.stringOp .add (hexS.extract q (q + 1)) ⟨S.toArray⟩).run Tryz.prog W = .ok (.string ⟨(c :: S).toArray⟩) W := fun W => by
      rw [run_string_add_sum W _ _ (by
        rw [dig_ext q hq]
        have e1 : (⟨#[UInt8.ofNat (48 + q)]⟩ : ByteArray).size = 1 := rfl
        have e2 : (⟨S.toArray⟩ : ByteArray).size = S.length := by show S.toArray.size = _; simp
        omega), dig_ext q hq, ec.out]
      first | rfl | (congr 2; apply ByteArray.ext; simp)
    have z1 : ∀ W : World, (Op.stringOp .add ⟨#[45]⟩ ⟨(Lib.decDigits u).toArray⟩).run Tryz.prog W = .ok (.string ⟨(45 :: Lib.decDigits u).toArray⟩) W := fun W => by
      rw [run_string_add_sum W _ _ (by
        have e1 : (⟨#[45]⟩ : ByteArray).size = 1 := rfl
        have e2 : (⟨(Lib.decDigits u).toArray⟩ : ByteArray).size = (Lib.decDigits u).length := by show (Lib.decDigits u).toArray.size = _; simp
        have := HL.out
        omega)]
      first | rfl | (congr 2; apply ByteArray.ext; simp)
    by_cases ht : t = 0
    · have hE : Hid (c :: S = Lib.decDigits u) := by
        have h1 := hS.out
        rw [dec_last v (by have := et.out; omega), eq.out, ec.out] at h1
        exact h1
      clear hS eq et HL
      subst ht
      have hn : -(u : Int) < 0 := by omega
      rw [hE.out] at x1
      by_cases hq0 : q = 0
      · subst hq0
        go_wp2
        go_ret
        exact ⟨rfl, hB⟩
      · have hq1 : -(q : Int) < 0 := by omega
        go_wp2
        go_ret
        exact ⟨rfl, hB⟩
    · have ht' : ((t : Int) == 0) = false := by simp; omega
      have hE : Hid (Lib.decDigits t ++ (c :: S) = Lib.decDigits u) := by
        have h1 := hS.out
        rw [dec_more v (by have := et.out; omega), eq.out, et.out, ec.out, List.append_assoc] at h1
        exact h1
      have hlt : t < v := by have := et.out; omega
      clear hS eq et HL z1
      have ht2 : (-(t : Int) == 0) = false := by simp; omega
      by_cases hq0 : q = 0
      · subst hq0
        go_wp2
        exact ⟨⟨_, t, by omega, rfl, rfl, hE, hB⟩, by simp [intOf]; omega⟩
      · have hq1 : -(q : Int) < 0 := by omega
        go_wp2
        exact ⟨⟨_, t, by omega, rfl, rfl, hE, hB⟩, by simp [intOf]; omega⟩

theorem ddec_any (n : Int) (w : World) (h1 : -9223372036854775808 ≤ n) (h2 : n ≤ 9223372036854775807) :
    Calls Tryz.prog 45 #[.int .i64 n] w fun e w' => e = .returned (.string ⟨(Lib.itoa n).toArray⟩) ∧ Below w.heap.size w w' := by
  have hl := Lib.itoa_length_le n h1 h2
  by_cases hn : n < 0
  · unfold Lib.itoa at hl ⊢
    rw [if_pos hn] at hl ⊢
    have h := ddec_neg n.natAbs w (by omega) (by omega) (by simp at hl; omega)
    rwa [show -((n.natAbs : Nat) : Int) = n by omega] at h
  · unfold Lib.itoa at hl ⊢
    rw [if_neg hn] at hl ⊢
    have h := ddec_pos n.toNat w (by omega) hl
    rwa [show ((n.toNat : Nat) : Int) = n by omega] at h

end Go.Proofs.YticmebamclacaaaGreatDoor

namespace Go.Proofs.YticmebamclacaaaGreatDoor
open Go.RowKit Go.Shelf
set_option linter.unusedVariables false

theorem step_append_own {P : Program} {ops : Array Oper} {o : Oper} {a : Act} {w : World} {K : Act → World → Prop} {Q : Exit → Act → World → Prop} {E : Prop}
    (hg : o.guard = none) (s x : Operand) (t : TypeId) (ho : o.op = Op.call { callee := Callee.builtin Builtin.append, args := #[s, x], argTypes := #[t, t] })
    (base : Nat) (e : TypeId) (i : TypeInfo) (z : Value) (size bytes : Nat) (ht : P.underlying t = some (.slice e)) (hi : P.info? e = some i) (hz : i.zero = some z) (hsize : i.size = size) (hby : i.bytes = bytes) (hzs : z.cells.size = size) (hsz : 0 < size)
    (v : Value) (n : Nat) (xs : List Value) (hs : a.eval s = v) (hown : w.ownsRow base e size v n xs)
    (ad : Addr) (m c : Nat) (news : List Value) (hx : a.eval x = .slice (some ad) m c) (hl : news.length = m * size) (hnews : ∀ j u, news[j]? = some u → w.cell? (ad.add j) = some u) (h1 : ∀ u ∈ news, u.oneCell' = true)
    (h63 : n + m ≤ maxLen) (hbytes : (n + m) * bytes ≤ 140737488355328) (hbase : base ≤ w.heap.size)
    (h : ∀ v' w', w'.ownsRow base e size v' (n + m) (xs ++ news) → w.grownBy w' v.ownBlock → K (a.put o.dst v') w') :
    if Region.wanted o (yielded ops a.tmps) = true then Oper.wp P o a w K Q else E := by
  have hw : Region.wanted o (yielded ops a.tmps) = true := by simp [Region.wanted, hg]
  rw [if_pos hw]
  exact wp_append_own w s x t ho base e i z size bytes ht hi hz hsize hby hzs hsz v n xs hs hown ad m c news hx hl hnews h1 h63 hbytes hbase fun v' w' h2 h3 _ => h v' w' h2 h3

/-- The bytes that a slice of the call's own holds. -/
def Own (B : Nat) (v : Value) (L : List UInt8) (w : World) : Prop := w.ownsRow B 5 1 v L.length (Lib.byteCells L)
theorem own_more {B : Nat} {v' : Value} {L M : List UInt8} {w' : World} {m : Nat} (h : w'.ownsRow B 5 1 v' (L.length + m) (Lib.byteCells L ++ Lib.byteCells M)) (hm : m = M.length) : Own B v' (L ++ M) w' := by
  unfold Own
  subst hm
  have e1 : Lib.byteCells (L ++ M) = Lib.byteCells L ++ Lib.byteCells M := by simp [Lib.byteCells]
  rw [e1, List.length_append]
  exact h
set_option maxHeartbeats 4000000 in
set_option maxRecDepth 100000 in
theorem dquote_any (s : ByteArray) (w : World) (hs : s.size ≤ 35184372088830) :
    Calls Tryz.prog 63 #[.string s] w fun e w' => e = .returned (.string ⟨(quoted s.data.toList).toArray⟩) ∧ Below w.heap.size w w' := by
  obtain ⟨i0, hi, hz0, hz1, hz2⟩ := info_parts inB
  go_enter Tryz.func63, Tryz.ntmps63
  go_wp2
  go_loopw [3, 4] (fun b i wr => ∃ k : Nat, k ≤ s.size ∧ i = .int .i64 k ∧ Hid (Own w.heap.size b (34 :: inside (s.data.toList.take k)) wr) ∧ Below w.heap.size w wr) (fun _ i _ => s.size - (intOf i).toNat)
  case atStart => exact ⟨0, by omega, rfl, World.ownsRow_lit w #[.int .u8 34] 1 (Nat.le_refl _) (by decide) rfl, by go_grown⟩
  case round =>
    obtain ⟨k, hk, rfl, hI, hB⟩ := hrel
    have hsz := hB.size
    have hbk : ∀ q, u3.ownBlock = some q → w.heap.size ≤ q := fun q hq => (World.ownsRow.lt hI.out q hq).1
    have HK : Hid (∀ q, u3.ownBlock = some q → w.heap.size ≤ q) := hbk
    clear hbk
    by_cases hke : k = s.size
    · subst hke
      have e0 : s.data.toList.take s.size = s.data.toList := List.take_of_length_le (by simp)
      rw [e0] at hI
      have hl := inside_len s.data.toList
      have hl2 : s.data.toList.length = s.size := by simp
      have hbd : (34 :: inside s.data.toList).length + 1 ≤ 140737488355328 := by simp; omega
      clear hl hl2
      go_wp2_with (at_builtin; refine wpList_append_own _ rfl (.tmp 47) (.tmp 48) 60 rfl w.heap.size 5 i0 (.int .u8 0) 1 1 Tryz.underlying60 hi hz0 hz1 hz2 rfl (by decide) _ _ _ rfl (World.ownsRow.alloc hI.out _) ⟨wr.heap.size, 0, none⟩ 1 1 [.int .u8 34] rfl rfl ?c1 ?c2 (by unfold maxLen; omega) (by omega) (by simp; omega) ?grow)
      case c1 => (intro j u hj; rw [Addr.add_lit]; (rcases j with _ | _ | _ | _ | j) <;> simp at hj <;> subst hj <;> simp (maxDischargeDepth := 12) [go_sem])
      case c2 => (intro u hu; simp at hu; (first | (rcases hu with rfl | rfl) | subst hu) <;> rfl)
      case grow =>
        intro v' w2 h2 h3 _
        have o2 : Own w.heap.size v' (quoted s.data.toList) w2 := own_more (M := [34]) h2 rfl
        have K2 : Below w.heap.size w w2 := Below.grown (hB.alloc hsz _) h3 (by simp; omega) HK.out
        clear h2 h3 hI
        obtain ⟨hl, hv | ⟨g, cap, cur, rfl, hg1, hg2, hg3, hg4, hg5, hg6⟩⟩ := o2
        · exfalso; have := hv.2; simp [quoted] at this
        have hown : w2.ownsRow w.heap.size 5 1 (.slice (some ⟨g, 0, none⟩) (quoted s.data.toList).length cap) (quoted s.data.toList).length (Lib.byteCells (quoted s.data.toList)) := ⟨hl, Or.inr ⟨g, cap, cur, rfl, hg1, hg2, hg3, hg4, hg5, hg6⟩⟩
        have cv : (convert 60 9 (.slice (some ⟨g, 0, none⟩) (quoted s.data.toList).length cap)).run Tryz.prog w2 = .ok (.string ⟨(quoted s.data.toList).toArray⟩) w2 := run_convert_bytes_back w2 60 9 5 ⟨g, 0, none⟩ cap (quoted s.data.toList) Tryz.underlying60 Tryz.underlying5 Tryz.underlying9 (fun j hj => by
          rw [Addr.add_lit, Nat.zero_add, hown.cellAt j (by omega)]
          simp [Lib.byteCells, List.getElem?_eq_getElem hj])
        clear hg1 hg2 hg3 hg4 hg5 hg6 hown hl
        go_wp2
        go_ret
        exact ⟨rfl, K2⟩
    · have hk' : (k : Int) < s.size := by omega
      have hkk : k < s.size := by omega
      have hstep := inside_take s k hkk
      have hl := inside_len (s.data.toList.take k)
      have hl2 : (s.data.toList.take k).length ≤ k := by simp; omega
      have hbd : (34 :: inside (s.data.toList.take k)).length + 4 ≤ 140737488355328 := by simp; omega
      have HS : Hid (inside (s.data.toList.take (k + 1)) = inside (s.data.toList.take k) ++ esc s[k]) := hstep
      clear hstep hl hl2
      have hu : s[k].toNat < 256 := s[k].toNat_lt
      obtain ⟨c, hc⟩ : ∃ c : UInt8, s[k] = c := ⟨_, rfl⟩
      rw [hc] at hu
      rw [hc] at HS
      by_cases a1 : (c.toNat : Int) = 34 ∨ (c.toNat : Int) = 92
      · have he : Hid (esc c = [92, c]) := by unfold Hid esc; rw [if_pos (by omega)]
        have a1' : c.toNat = 34 ∨ c.toNat = 92 := by omega
        clear a1
        have a2 : ((c.toNat : Int) == 34) = true ∨ (((c.toNat : Int) == 34) = false ∧ ((c.toNat : Int) == 92) = true) := by rcases a1' with h | h <;> simp [h]
        clear a1'
        rcases a2 with a2 | ⟨a2, a3⟩
        · go_wp2_with (at_builtin; refine wpList_append_own _ rfl (.tmp 32) (.tmp 34) 60 rfl w.heap.size 5 i0 (.int .u8 0) 1 1 Tryz.underlying60 hi hz0 hz1 hz2 rfl (by decide) _ _ _ rfl (World.ownsRow.alloc hI.out _) ⟨wr.heap.size, 0, none⟩ 2 2 [.int .u8 92, .int .u8 c.toNat] rfl rfl ?c1 ?c2 (by unfold maxLen; omega) (by omega) (by simp; omega) ?grow)
          case c1 => (intro j u hj; rw [Addr.add_lit]; (rcases j with _ | _ | _ | _ | j) <;> simp at hj <;> subst hj <;> simp (maxDischargeDepth := 12) [go_sem])
          case c2 => (intro u hu; simp at hu; (first | (rcases hu with rfl | rfl) | subst hu) <;> rfl)
          case grow =>
            intro v' w2 h2 h3 _
            have o2 : Hid (Own w.heap.size v' (34 :: inside (s.data.toList.take (k + 1))) w2) := by
              rw [HS.out, he.out, ← List.cons_append]
              exact own_more (M := [92, c]) h2 rfl
            have K2 : Below w.heap.size w w2 := Below.grown (hB.alloc hsz _) h3 (by simp; omega) HK.out
            clear h2 h3 hI HK he HS
            go_wp2
            exact ⟨⟨k + 1, by omega, by simp, o2, K2⟩, by simp [intOf]; omega⟩
        · go_wp2_with (at_builtin; refine wpList_append_own _ rfl (.tmp 32) (.tmp 34) 60 rfl w.heap.size 5 i0 (.int .u8 0) 1 1 Tryz.underlying60 hi hz0 hz1 hz2 rfl (by decide) _ _ _ rfl (World.ownsRow.alloc hI.out _) ⟨wr.heap.size, 0, none⟩ 2 2 [.int .u8 92, .int .u8 c.toNat] rfl rfl ?c1 ?c2 (by unfold maxLen; omega) (by omega) (by simp; omega) ?grow)
          case c1 => (intro j u hj; rw [Addr.add_lit]; (rcases j with _ | _ | _ | _ | j) <;> simp at hj <;> subst hj <;> simp (maxDischargeDepth := 12) [go_sem])
          case c2 => (intro u hu; simp at hu; (first | (rcases hu with rfl | rfl) | subst hu) <;> rfl)
          case grow =>
            intro v' w2 h2 h3 _
            have o2 : Hid (Own w.heap.size v' (34 :: inside (s.data.toList.take (k + 1))) w2) := by
              rw [HS.out, he.out, ← List.cons_append]
              exact own_more (M := [92, c]) h2 rfl
            have K2 : Below w.heap.size w w2 := Below.grown (hB.alloc hsz _) h3 (by simp; omega) HK.out
            clear h2 h3 hI HK he HS
            go_wp2
            exact ⟨⟨k + 1, by omega, by simp, o2, K2⟩, by simp [intOf]; omega⟩
      · have a2 : ((c.toNat : Int) == 34) = false := by simp; omega
        have a3 : ((c.toNat : Int) == 92) = false := by simp; omega
        by_cases a4 : 32 ≤ (c.toNat : Int) ∧ (c.toNat : Int) ≤ 126
        · have he : Hid (esc c = [c]) := by unfold Hid esc; rw [if_neg (by omega), if_pos (by omega)]
          obtain ⟨a5, a6⟩ := a4
          clear a1
          go_wp2_with (at_builtin; refine wpList_append_own _ rfl (.tmp 43) (.tmp 45) 60 rfl w.heap.size 5 i0 (.int .u8 0) 1 1 Tryz.underlying60 hi hz0 hz1 hz2 rfl (by decide) _ _ _ rfl (World.ownsRow.alloc hI.out _) ⟨wr.heap.size, 0, none⟩ 1 1 [.int .u8 c.toNat] rfl rfl ?c1 ?c2 (by unfold maxLen; omega) (by omega) (by simp; omega) ?grow)
          case c1 => (intro j u hj; rw [Addr.add_lit]; (rcases j with _ | _ | _ | _ | j) <;> simp at hj <;> subst hj <;> simp (maxDischargeDepth := 12) [go_sem])
          case c2 => (intro u hu; simp at hu; (first | (rcases hu with rfl | rfl) | subst hu) <;> rfl)
          case grow =>
            intro v' w2 h2 h3 _
            have o2 : Hid (Own w.heap.size v' (34 :: inside (s.data.toList.take (k + 1))) w2) := by
              rw [HS.out, he.out, ← List.cons_append]
              exact own_more (M := [c]) h2 rfl
            have K2 : Below w.heap.size w w2 := Below.grown (hB.alloc hsz _) h3 (by simp; omega) HK.out
            clear h2 h3 hI HK he HS
            go_wp2
            exact ⟨⟨k + 1, by omega, by simp, o2, K2⟩, by simp [intOf]; omega⟩
        · have he : Hid (esc c = [92, 120, hexd (c.toNat / 16), hexd (c.toNat % 16)]) := by unfold Hid esc; rw [if_neg (by omega), if_neg (by omega)]
          have a5 : (32 ≤ (c.toNat : Int)) = False ∨ ((32 ≤ (c.toNat : Int)) = True ∧ ((c.toNat : Int) ≤ 126) = False) := by
            by_cases h : 32 ≤ (c.toNat : Int)
            · right; refine ⟨by simp; omega, by simp; omega⟩
            · left; simp; omega
          clear a1 a4
          obtain ⟨p, ep⟩ : ∃ p : Nat, Hid (c.toNat / 16 = p) := ⟨_, rfl⟩
          obtain ⟨q, eq⟩ : ∃ q : Nat, Hid (c.toNat % 16 = q) := ⟨_, rfl⟩
          have hp : p < 16 := by have := ep.out; omega
          have hq : q < 16 := by have := eq.out; omega
          have xp : (c.toNat : Int) / 16 = (p : Int) := by have := ep.out; omega
          have xq : (c.toNat : Int) % 16 = (q : Int) := by have := eq.out; omega
          rw [ep.out, eq.out] at he
          rcases a5 with a5 | ⟨a5, a6⟩
          · skip
            have yp : IntKind.u8.wrap (p : Int) = (p : Int) := by simp [IntKind.wrap, IntKind.bits, IntKind.signed]; omega
            have yq : (c.toNat : Int).tmod 16 = (q : Int) := by rw [Int.tmod_eq_emod_of_nonneg (by omega)]; exact xq
            have hp2 : (p : Int) < 16 := by omega
            have hq2 : (q : Int) < 16 := by omega
            have tp := hex_tab p hp
            have tq := hex_tab q hq
            go_upto_region 6 with fail
            refine wp_region_held_drew (S := fun _ => True) (by kernel_rfl) trivial (fun hHeld => ?_)
            refine wpAnyH_take (i := 0) (oi := ({ dst := some 16, op := Op.move (Operand.tmp 3), type := 60, pos := "ref.go:191", after := #[], guard := none } : Oper)) (v := ?yvq0A) rfl (by kernel_rfl) (by kernel_rfl) (by kernel_rfl) (fun _ _ _ h => h) (Or.inl ⟨by rfl, ?yhq0A⟩) (by assumption) ?yrq0A
            case yhq0A => (intro wq hSw; (try dsimp only at hSw); go_simp; first | done | with_reducible rfl)
            try simp only [Act.put, List.setIfInBounds_toArray, List.set_cons_zero, List.set_cons_succ]
            refine wpAnyH_take (i := 1) (oi := ({ dst := some 17, op := Op.move (Operand.tmp 5), type := 5, pos := "ref.go:191", after := #[], guard := none } : Oper)) (v := ?yvq1A) rfl (by kernel_rfl) (by kernel_rfl) (by kernel_rfl) (fun _ _ _ h => h) (Or.inl ⟨by rfl, ?yhq1A⟩) (by assumption) ?yrq1A
            case yhq1A => (intro wq hSw; (try dsimp only at hSw); go_simp; first | done | with_reducible rfl)
            try simp only [Act.put, List.setIfInBounds_toArray, List.set_cons_zero, List.set_cons_succ]
            refine wpAnyH_take (i := 2) (oi := ({ dst := some 18, op := Op.binOp BinOp.quo 5 (Operand.tmp 17) (Operand.const (Value.int IntKind.u8 16)) 5, type := 5, pos := "ref.go:191", after := #[{ on := 1, ground := Ground.data }], guard := none } : Oper)) (v := ?yvq2A) rfl (by kernel_rfl) (by kernel_rfl) (by kernel_rfl) (fun _ _ _ h => h) (Or.inl ⟨by rfl, ?yhq2A⟩) (by assumption) ?yrq2A
            case yhq2A => (intro wq hSw; (try dsimp only at hSw); go_simp; first | done | with_reducible rfl)
            try simp only [Act.put, List.setIfInBounds_toArray, List.set_cons_zero, List.set_cons_succ]
            refine wpAnyH_take (i := 3) (oi := ({ dst := some 19, op := Op.index 9 (Operand.const (Value.string { data := #[48, 49, 50, 51, 52, 53, 54, 55, 56, 57, 97, 98, 99, 100, 101, 102] })) (Operand.tmp 18), type := 5, pos := "ref.go:191", after := #[{ on := 2, ground := Ground.data }], guard := none } : Oper)) (v := ?yvq3A) rfl (by kernel_rfl) (by kernel_rfl) (by kernel_rfl) (fun _ _ _ h => h) (Or.inl ⟨by rfl, ?yhq3A⟩) (by assumption) ?yrq3A
            case yhq3A => (intro wq hSw; (try dsimp only at hSw); go_simp; first | done | with_reducible rfl)
            try simp only [Act.put, List.setIfInBounds_toArray, List.set_cons_zero, List.set_cons_succ]
            refine wpAnyH_take (i := 4) (oi := ({ dst := some 20, op := Op.move (Operand.tmp 5), type := 5, pos := "ref.go:191", after := #[], guard := none } : Oper)) (v := ?yvq4A) rfl (by kernel_rfl) (by kernel_rfl) (by kernel_rfl) (fun _ _ _ h => h) (Or.inl ⟨by rfl, ?yhq4A⟩) (by assumption) ?yrq4A
            case yhq4A => (intro wq hSw; (try dsimp only at hSw); go_simp; first | done | with_reducible rfl)
            try simp only [Act.put, List.setIfInBounds_toArray, List.set_cons_zero, List.set_cons_succ]
            refine wpAnyH_take (i := 5) (oi := ({ dst := some 21, op := Op.binOp BinOp.rem 5 (Operand.tmp 20) (Operand.const (Value.int IntKind.u8 16)) 5, type := 5, pos := "ref.go:191", after := #[{ on := 4, ground := Ground.data }], guard := none } : Oper)) (v := ?yvq5A) rfl (by kernel_rfl) (by kernel_rfl) (by kernel_rfl) (fun _ _ _ h => h) (Or.inl ⟨by rfl, ?yhq5A⟩) (by assumption) ?yrq5A
            case yhq5A => (intro wq hSw; (try dsimp only at hSw); go_simp; first | done | with_reducible rfl)
            try simp only [Act.put, List.setIfInBounds_toArray, List.set_cons_zero, List.set_cons_succ]
            refine wpAnyH_take (i := 6) (oi := ({ dst := some 22, op := Op.index 9 (Operand.const (Value.string { data := #[48, 49, 50, 51, 52, 53, 54, 55, 56, 57, 97, 98, 99, 100, 101, 102] })) (Operand.tmp 21), type := 5, pos := "ref.go:191", after := #[{ on := 5, ground := Ground.data }], guard := none } : Oper)) (v := ?yvq6A) rfl (by kernel_rfl) (by kernel_rfl) (by kernel_rfl) (fun _ _ _ h => h) (Or.inl ⟨by rfl, ?yhq6A⟩) (by assumption) ?yrq6A
            case yhq6A => (intro wq hSw; (try dsimp only at hSw); go_simp; first | done | with_reducible rfl)
            try simp only [Act.put, List.setIfInBounds_toArray, List.set_cons_zero, List.set_cons_succ]
            refine wpAnyH_ready (rs := [7]) (by kernel_rfl) (by simp) ?_
            refine AllReadyH.cons (o := ({ dst := some 23, op := Op.buildSlice 60 4 #[(0, Operand.const (Value.int IntKind.u8 92)), (1, Operand.const (Value.int IntKind.u8 120)), (2, Operand.tmp 19), (3, Operand.tmp 22)], type := 60, pos := "ref.go:191", after := #[{ on := 3, ground := Ground.data }, { on := 6, ground := Ground.data }], guard := none } : Oper)) rfl (fun K hK => ?_) AllReadyH.nil
            go_simp
            refine hK.out _ _ trivial (fun hHeld => ?_)
            clear hK K
            try simp only [Act.put, List.setIfInBounds_toArray, List.set_cons_zero, List.set_cons_succ]
            refine wpAnyH_ready (rs := [8]) (by kernel_rfl) (by simp) ?_
            refine AllReadyH.cons (o := ({ dst := some 24, op := Op.call { callee := Callee.builtin Builtin.append, args := #[Operand.tmp 16, Operand.tmp 23], argTypes := #[60, 60] }, type := 60, pos := "ref.go:191", after := #[{ on := 0, ground := Ground.data }, { on := 7, ground := Ground.data }], guard := none } : Oper)) rfl (fun K hK => ?_) AllReadyH.nil
            refine step_append_own rfl (.tmp 16) (.tmp 23) 60 rfl w.heap.size 5 i0 (.int .u8 0) 1 1 Tryz.underlying60 hi hz0 hz1 hz2 rfl (by decide) u3 _ _ (by simp [Act.eval]) (World.ownsRow.alloc (World.ownsRow.drew hI.out) _) ⟨wr.heap.size, 0, none⟩ 4 4 [.int .u8 92, .int .u8 120, .int .u8 (hexd p).toNat, .int .u8 (hexd q).toNat] (by simp [Act.eval]) rfl ?c1A ?c2A (by unfold maxLen; omega) (by omega) (by simp; omega) (fun v' w2 h2 h3 => ?_)
            case c1A => (intro j u hj; rw [Addr.add_lit]; (rcases j with _ | _ | _ | _ | j) <;> simp at hj <;> subst hj <;> simp (maxDischargeDepth := 12) [go_sem])
            case c2A => (intro u hu; simp at hu; (rcases hu with rfl | rfl | rfl | rfl) <;> rfl)
            refine hK.out _ _ trivial (fun hHeld => ?_)
            clear hK K
            try simp only [Act.put, List.setIfInBounds_toArray, List.set_cons_zero, List.set_cons_succ]
            refine wpAnyH_take (i := 9) (oi := ({ dst := some 3, op := Op.assign (Operand.tmp 24), type := 60, pos := "ref.go:191", after := #[{ on := 8, ground := Ground.data }, { on := 8, ground := Ground.chain }, { on := 0, ground := Ground.phase }, { on := 1, ground := Ground.phase }, { on := 2, ground := Ground.phase }, { on := 3, ground := Ground.phase }, { on := 4, ground := Ground.phase }, { on := 5, ground := Ground.phase }, { on := 6, ground := Ground.phase }, { on := 7, ground := Ground.phase }, { on := 8, ground := Ground.phase }], guard := none } : Oper)) (v := ?yvq9A) rfl (by kernel_rfl) (by kernel_rfl) (by kernel_rfl) (fun _ _ _ h => h) (Or.inl ⟨by rfl, ?yhq9A⟩) (by assumption) ?yrq9A
            case yhq9A => (intro wq hSw; (try dsimp only at hSw); go_simp; first | done | with_reducible rfl)
            try simp only [Act.put, List.setIfInBounds_toArray, List.set_cons_zero, List.set_cons_succ]
            refine wpAnyH_done (by kernel_rfl) ?_ _
            have o2 : Hid (Own w.heap.size v' (34 :: inside (s.data.toList.take (k + 1))) w2) := by
              rw [HS.out, he.out, ← List.cons_append]
              exact own_more (M := [92, 120, hexd p, hexd q]) h2 rfl
            have K2 : Below w.heap.size w w2 := Below.grown (hB.drew.alloc (by simpa using hsz) _) h3 (by simp; omega) HK.out
            clear h2 h3 hI HK he HS
            (try go_wp2)
            exact ⟨⟨k + 1, by omega, by simp, o2, K2⟩, by simp [intOf]; omega⟩
          · skip
            have yp : IntKind.u8.wrap (p : Int) = (p : Int) := by simp [IntKind.wrap, IntKind.bits, IntKind.signed]; omega
            have yq : (c.toNat : Int).tmod 16 = (q : Int) := by rw [Int.tmod_eq_emod_of_nonneg (by omega)]; exact xq
            have hp2 : (p : Int) < 16 := by omega
            have hq2 : (q : Int) < 16 := by omega
            have tp := hex_tab p hp
            have tq := hex_tab q hq
            go_upto_region 6 with fail
            refine wp_region_held_drew (S := fun _ => True) (by kernel_rfl) trivial (fun hHeld => ?_)
            refine wpAnyH_take (i := 0) (oi := ({ dst := some 16, op := Op.move (Operand.tmp 3), type := 60, pos := "ref.go:191", after := #[], guard := none } : Oper)) (v := ?yvq0B) rfl (by kernel_rfl) (by kernel_rfl) (by kernel_rfl) (fun _ _ _ h => h) (Or.inl ⟨by rfl, ?yhq0B⟩) (by assumption) ?yrq0B
            case yhq0B => (intro wq hSw; (try dsimp only at hSw); go_simp; first | done | with_reducible rfl)
            try simp only [Act.put, List.setIfInBounds_toArray, List.set_cons_zero, List.set_cons_succ]
            refine wpAnyH_take (i := 1) (oi := ({ dst := some 17, op := Op.move (Operand.tmp 5), type := 5, pos := "ref.go:191", after := #[], guard := none } : Oper)) (v := ?yvq1B) rfl (by kernel_rfl) (by kernel_rfl) (by kernel_rfl) (fun _ _ _ h => h) (Or.inl ⟨by rfl, ?yhq1B⟩) (by assumption) ?yrq1B
            case yhq1B => (intro wq hSw; (try dsimp only at hSw); go_simp; first | done | with_reducible rfl)
            try simp only [Act.put, List.setIfInBounds_toArray, List.set_cons_zero, List.set_cons_succ]
            refine wpAnyH_take (i := 2) (oi := ({ dst := some 18, op := Op.binOp BinOp.quo 5 (Operand.tmp 17) (Operand.const (Value.int IntKind.u8 16)) 5, type := 5, pos := "ref.go:191", after := #[{ on := 1, ground := Ground.data }], guard := none } : Oper)) (v := ?yvq2B) rfl (by kernel_rfl) (by kernel_rfl) (by kernel_rfl) (fun _ _ _ h => h) (Or.inl ⟨by rfl, ?yhq2B⟩) (by assumption) ?yrq2B
            case yhq2B => (intro wq hSw; (try dsimp only at hSw); go_simp; first | done | with_reducible rfl)
            try simp only [Act.put, List.setIfInBounds_toArray, List.set_cons_zero, List.set_cons_succ]
            refine wpAnyH_take (i := 3) (oi := ({ dst := some 19, op := Op.index 9 (Operand.const (Value.string { data := #[48, 49, 50, 51, 52, 53, 54, 55, 56, 57, 97, 98, 99, 100, 101, 102] })) (Operand.tmp 18), type := 5, pos := "ref.go:191", after := #[{ on := 2, ground := Ground.data }], guard := none } : Oper)) (v := ?yvq3B) rfl (by kernel_rfl) (by kernel_rfl) (by kernel_rfl) (fun _ _ _ h => h) (Or.inl ⟨by rfl, ?yhq3B⟩) (by assumption) ?yrq3B
            case yhq3B => (intro wq hSw; (try dsimp only at hSw); go_simp; first | done | with_reducible rfl)
            try simp only [Act.put, List.setIfInBounds_toArray, List.set_cons_zero, List.set_cons_succ]
            refine wpAnyH_take (i := 4) (oi := ({ dst := some 20, op := Op.move (Operand.tmp 5), type := 5, pos := "ref.go:191", after := #[], guard := none } : Oper)) (v := ?yvq4B) rfl (by kernel_rfl) (by kernel_rfl) (by kernel_rfl) (fun _ _ _ h => h) (Or.inl ⟨by rfl, ?yhq4B⟩) (by assumption) ?yrq4B
            case yhq4B => (intro wq hSw; (try dsimp only at hSw); go_simp; first | done | with_reducible rfl)
            try simp only [Act.put, List.setIfInBounds_toArray, List.set_cons_zero, List.set_cons_succ]
            refine wpAnyH_take (i := 5) (oi := ({ dst := some 21, op := Op.binOp BinOp.rem 5 (Operand.tmp 20) (Operand.const (Value.int IntKind.u8 16)) 5, type := 5, pos := "ref.go:191", after := #[{ on := 4, ground := Ground.data }], guard := none } : Oper)) (v := ?yvq5B) rfl (by kernel_rfl) (by kernel_rfl) (by kernel_rfl) (fun _ _ _ h => h) (Or.inl ⟨by rfl, ?yhq5B⟩) (by assumption) ?yrq5B
            case yhq5B => (intro wq hSw; (try dsimp only at hSw); go_simp; first | done | with_reducible rfl)
            try simp only [Act.put, List.setIfInBounds_toArray, List.set_cons_zero, List.set_cons_succ]
            refine wpAnyH_take (i := 6) (oi := ({ dst := some 22, op := Op.index 9 (Operand.const (Value.string { data := #[48, 49, 50, 51, 52, 53, 54, 55, 56, 57, 97, 98, 99, 100, 101, 102] })) (Operand.tmp 21), type := 5, pos := "ref.go:191", after := #[{ on := 5, ground := Ground.data }], guard := none } : Oper)) (v := ?yvq6B) rfl (by kernel_rfl) (by kernel_rfl) (by kernel_rfl) (fun _ _ _ h => h) (Or.inl ⟨by rfl, ?yhq6B⟩) (by assumption) ?yrq6B
            case yhq6B => (intro wq hSw; (try dsimp only at hSw); go_simp; first | done | with_reducible rfl)
            try simp only [Act.put, List.setIfInBounds_toArray, List.set_cons_zero, List.set_cons_succ]
            refine wpAnyH_ready (rs := [7]) (by kernel_rfl) (by simp) ?_
            refine AllReadyH.cons (o := ({ dst := some 23, op := Op.buildSlice 60 4 #[(0, Operand.const (Value.int IntKind.u8 92)), (1, Operand.const (Value.int IntKind.u8 120)), (2, Operand.tmp 19), (3, Operand.tmp 22)], type := 60, pos := "ref.go:191", after := #[{ on := 3, ground := Ground.data }, { on := 6, ground := Ground.data }], guard := none } : Oper)) rfl (fun K hK => ?_) AllReadyH.nil
            go_simp
            refine hK.out _ _ trivial (fun hHeld => ?_)
            clear hK K
            try simp only [Act.put, List.setIfInBounds_toArray, List.set_cons_zero, List.set_cons_succ]
            refine wpAnyH_ready (rs := [8]) (by kernel_rfl) (by simp) ?_
            refine AllReadyH.cons (o := ({ dst := some 24, op := Op.call { callee := Callee.builtin Builtin.append, args := #[Operand.tmp 16, Operand.tmp 23], argTypes := #[60, 60] }, type := 60, pos := "ref.go:191", after := #[{ on := 0, ground := Ground.data }, { on := 7, ground := Ground.data }], guard := none } : Oper)) rfl (fun K hK => ?_) AllReadyH.nil
            refine step_append_own rfl (.tmp 16) (.tmp 23) 60 rfl w.heap.size 5 i0 (.int .u8 0) 1 1 Tryz.underlying60 hi hz0 hz1 hz2 rfl (by decide) u3 _ _ (by simp [Act.eval]) (World.ownsRow.alloc (World.ownsRow.drew hI.out) _) ⟨wr.heap.size, 0, none⟩ 4 4 [.int .u8 92, .int .u8 120, .int .u8 (hexd p).toNat, .int .u8 (hexd q).toNat] (by simp [Act.eval]) rfl ?c1B ?c2B (by unfold maxLen; omega) (by omega) (by simp; omega) (fun v' w2 h2 h3 => ?_)
            case c1B => (intro j u hj; rw [Addr.add_lit]; (rcases j with _ | _ | _ | _ | j) <;> simp at hj <;> subst hj <;> simp (maxDischargeDepth := 12) [go_sem])
            case c2B => (intro u hu; simp at hu; (rcases hu with rfl | rfl | rfl | rfl) <;> rfl)
            refine hK.out _ _ trivial (fun hHeld => ?_)
            clear hK K
            try simp only [Act.put, List.setIfInBounds_toArray, List.set_cons_zero, List.set_cons_succ]
            refine wpAnyH_take (i := 9) (oi := ({ dst := some 3, op := Op.assign (Operand.tmp 24), type := 60, pos := "ref.go:191", after := #[{ on := 8, ground := Ground.data }, { on := 8, ground := Ground.chain }, { on := 0, ground := Ground.phase }, { on := 1, ground := Ground.phase }, { on := 2, ground := Ground.phase }, { on := 3, ground := Ground.phase }, { on := 4, ground := Ground.phase }, { on := 5, ground := Ground.phase }, { on := 6, ground := Ground.phase }, { on := 7, ground := Ground.phase }, { on := 8, ground := Ground.phase }], guard := none } : Oper)) (v := ?yvq9B) rfl (by kernel_rfl) (by kernel_rfl) (by kernel_rfl) (fun _ _ _ h => h) (Or.inl ⟨by rfl, ?yhq9B⟩) (by assumption) ?yrq9B
            case yhq9B => (intro wq hSw; (try dsimp only at hSw); go_simp; first | done | with_reducible rfl)
            try simp only [Act.put, List.setIfInBounds_toArray, List.set_cons_zero, List.set_cons_succ]
            refine wpAnyH_done (by kernel_rfl) ?_ _
            have o2 : Hid (Own w.heap.size v' (34 :: inside (s.data.toList.take (k + 1))) w2) := by
              rw [HS.out, he.out, ← List.cons_append]
              exact own_more (M := [92, 120, hexd p, hexd q]) h2 rfl
            have K2 : Below w.heap.size w w2 := Below.grown (hB.drew.alloc (by simpa using hsz) _) h3 (by simp; omega) HK.out
            clear h2 h3 hI HK he HS
            (try go_wp2)
            exact ⟨⟨k + 1, by omega, by simp, o2, K2⟩, by simp [intOf]; omega⟩

end Go.Proofs.YticmebamclacaaaGreatDoor

namespace Go.Proofs.YticmebamclacaaaGreatDoor
open Go.RowKit LX Go.Shelf
set_option linter.unusedVariables false

/-- Values of the call's own. -/
def OwnVs (B : Nat) (v : Value) (xs : List Val) (w : World) : Prop := w.ownsRow B 50 4 v xs.length (flat xs)
theorem OwnVs.row {B : Nat} {v : Value} {xs : List Val} {w : World} (h : OwnVs B v xs w) : RowAt w v xs := by
  have h' : w.ownsRow B 50 4 v xs.length (flat xs) := h
  obtain ⟨hl, ⟨e, hn⟩ | ⟨g, cap, cur, rfl, hg1, hg2, -⟩⟩ := h
  · exact ⟨none, 0, by rw [e, hn], Or.inl (List.length_eq_zero_iff.1 hn)⟩
  · refine ⟨_, _, rfl, Or.inr ⟨g, 0, rfl, (Array.getElem?_eq_some_iff.1 hg2).1, cells_lie fun j hj => ?_⟩⟩
    rw [Nat.zero_add, h'.cellAt _ (by omega)]
theorem OwnVs.form {B : Nat} {v : Value} {xs : List Val} {w : World} (h : OwnVs B v xs w) : ∃ p n c, v = .slice p n c := by
  obtain ⟨-, ⟨e, hn⟩ | ⟨g, cap, cur, e, -⟩⟩ := h
  · exact ⟨_, _, _, e⟩
  · exact ⟨_, _, _, e⟩
theorem flat_snoc (xs : List Val) (v : Val) : flat (xs ++ [v]) = flat xs ++ vcells v := by simp [flat]

/-- The values up to the bracket that ends an event, and how many tokens there were. -/
def rdA (acc : List Val) (i : Nat) : List (Tok Val) → Option (List Val × Nat)
  | [] => none
  | t :: l => if t.x = [41] then some (acc, i + 1) else if t.k = 6 then rdA (acc ++ [t.v]) (i + 1) l else none
/-- An event at the tokens' head. -/
def rdE : List (Tok Val) → Option (Evt × Nat)
  | t0 :: t1 :: l => if t0.x = [40] ∧ nameL t1.x = true then (rdA [] 2 l).map (fun p => (⟨⟨t1.x.toArray⟩, p.1⟩, p.2)) else none
  | _ => none
theorem x_ne {l m : List UInt8} (h : ¬ l = m) : ((⟨l.toArray⟩ : ByteArray).toList == m) = false := by rw [ByteArray.toList_eq]; simpa using h
theorem x_eq {l m : List UInt8} (h : l = m) : ((⟨l.toArray⟩ : ByteArray).toList == m) = true := by rw [ByteArray.toList_eq]; simpa using h

/-- What readEvent answers: an error, or an event whose values are its own. -/
def RdOut (N : Nat) (w : World) (L : List (Tok Val)) (r : Ending) (w' : World) : Prop := Below N w w' ∧ ((rdE L = none ∧ r = .returned (.tuple #[.agg #[.string ⟨#[]⟩, .slice none 0 0], .int .i64 0, .iface 92 (.agg #[.int .i64 70])])) ∨
      (∃ e n p m c, rdE L = some (e, n) ∧ r = .returned (.tuple #[.agg #[.string e.name, .slice p m c], .int .i64 (n : Nat), .nilIface]) ∧ OwnVs (N + 2) (.slice p m c) e.args w'))
theorem RdOut.no {N : Nat} {w w' : World} {L : List (Tok Val)} {r : Ending} (hb : Below N w w') (h : rdE L = none) (hr : r = .returned (.tuple #[.agg #[.string ⟨#[]⟩, .slice none 0 0], .int .i64 0, .iface 92 (.agg #[.int .i64 70])])) : RdOut N w L r w' := ⟨hb, Or.inl ⟨h, hr⟩⟩
theorem RdOut.yes {N : Nat} {w w' : World} {L : List (Tok Val)} {r : Ending} {nm : ByteArray} {acc : List Val} {n : Nat} {p : Option Addr} {m c : Nat} (hb : Below N w w') (h : rdE L = some (⟨nm, acc⟩, n)) (hr : r = .returned (.tuple #[.agg #[.string nm, .slice p m c], .int .i64 (n : Nat), .nilIface])) (ho : OwnVs (N + 2) (.slice p m c) acc w') : RdOut N w L r w' := ⟨hb, Or.inr ⟨⟨nm, acc⟩, n, p, m, c, h, hr, ho⟩⟩
/-- What stands behind one value more. -/
theorem ev_step {w W W2 : World} {B ev n : Nat} {nm : ByteArray} {V v' : Value} {acc : List Val} {Y : Val} (hev : W.heap[ev]? = some (.cells #[.string nm, V] 48 (0, 0))) (hlt : ev < B) (hBW : B ≤ W.heap.size) (h0 : Below n w W) (hn : n ≤ ev)
    (hown : W.ownsRow B 50 4 V acc.length (flat acc))
    (h2 : W2.ownsRow B 50 4 v' (acc.length + 1) (flat acc ++ [.int .i64 Y.k, .int .i64 Y.n, .int .i64 Y.d, .string Y.s])) (h3 : (W.alloc (.cells #[.int .i64 Y.k, .int .i64 Y.n, .int .i64 Y.d, .string Y.s] 50)).grownBy W2 V.ownBlock) :
    ∃ p m c, v' = .slice p m c ∧ W2.cell? ⟨ev, 1, none⟩ = some V ∧ W2.frozen? ⟨ev, 1, none⟩ = false ∧
      (W2.setCell ⟨ev, 1, none⟩ v').heap[ev]? = some (.cells #[.string nm, v'] 48 (0, 0)) ∧ OwnVs B v' (acc ++ [Y]) (W2.setCell ⟨ev, 1, none⟩ v') ∧ Below n w (W2.setCell ⟨ev, 1, none⟩ v') ∧ B ≤ (W2.setCell ⟨ev, 1, none⟩ v').heap.size ∧ (∀ k, k < B → k ≠ ev → (W2.setCell ⟨ev, 1, none⟩ v').heap[k]? = W.heap[k]?) := by
  have hown1 : (W.alloc (.cells #[.int .i64 Y.k, .int .i64 Y.n, .int .i64 Y.d, .string Y.s] 50)).ownsRow B 50 4 V acc.length (flat acc) := World.ownsRow.alloc hown _
  have hne : ∀ k, k < B → V.ownBlock ≠ some k := fun k hk e => by have := (World.ownsRow.lt hown k e).1; omega
  have keep : ∀ k, k < B → W2.heap[k]? = W.heap[k]? := fun k hk => by
    have e1 := h3.block k (by simp; omega) (fun e => hne k hk e.symm)
    rw [e1]
    show (W.heap.push _)[k]? = _
    rw [Array.getElem?_push, if_neg (by omega)]
  have hev2 : W2.heap[ev]? = some (.cells #[.string nm, V] 48 (0, 0)) := (keep ev hlt).trans hev
  obtain ⟨p, m, c, rfl⟩ : ∃ p m c, v' = .slice p m c := by
    obtain ⟨-, ⟨e, hn⟩ | ⟨g, cap, cur, e, -⟩⟩ := h2
    · exact ⟨_, _, _, e⟩
    · exact ⟨_, _, _, e⟩
  have hB2 : Below n w W2 := Below.grown (h0.alloc (by omega) _) h3 (by simp; omega) (fun q hq => by have := (World.ownsRow.lt hown q hq).1; omega)
  have hs2 : B ≤ W2.heap.size := Nat.le_trans hBW (Nat.le_trans (by simp) h3.size)
  have hg := grownBy_setX W2 ev 1 (.slice p m c)
  refine ⟨p, m, c, rfl, ?_, Lib.frozen_of_heap hev2 1, ?_, ?_, ?_, ?_, ?_⟩
  · rw [Lib.cell_of_heap hev2]; rfl
  · show (W2.heap.modify ev _)[ev]? = _
    rw [Array.getElem?_modify, if_pos rfl, hev2]
    rfl
  · unfold OwnVs
    rw [flat_snoc, List.length_append]
    exact ownsRow_setCell_below h2 (a := ⟨ev, 1, none⟩) hlt _
  · exact hB2.grown hg (by omega) (fun q hq => by injection hq with hq; omega)
  · exact Nat.le_trans hs2 hg.size
  · intro k hk hke
    exact (hg.block k (by omega) (fun e => hke (by injection e))).trans (keep k hk)

set_option maxRecDepth 100000 in
set_option maxHeartbeats 8000000 in
theorem rdev_any (V : Value) (L : List (Tok Val)) (w : World) (hV : ToksAt w V L) (lL : L.length ≤ 16384) :
    Calls Tryz.prog 80 #[V] w fun r w' => RdOut w.heap.size w L r w' := by
  obtain ⟨p, c, rfl, hc, HX0⟩ := hV.form
  have HX : Hid (∀ i (hi : i < L.length), ∃ b off, p = some ⟨b, off, none⟩ ∧ b < w.heap.size ∧ TokC w b (off + i * 7) L[i]) := HX0
  clear hV HX0
  obtain ⟨i0, hi, hz0, hz1, hz2⟩ := info_parts inV
  obtain ⟨n, en⟩ : ∃ n : Nat, Hid (L.length = n) := ⟨_, rfl⟩
  rw [en.out] at hc lL ⊢
  by_cases h2 : n < 2
  · have hE : Hid (rdE L = none) := by
      have := en.out
      unfold Hid
      match L, this with
      | [], _ => rfl
      | [_], _ => rfl
      | _ :: _ :: _, h => simp at h; omega
    have h2' : (n : Int) < 2 := by omega
    go_enter Tryz.func80, Tryz.ntmps80
    go_wp2
    refine bodyPost_ret (by simp [results, Tryz.results80, go_sem]; try rfl) rfl ?_
    exact RdOut.no (by go_grown) hE.out rfl
  · have h2' : ¬ (n : Int) < 2 := by omega
    obtain ⟨t0, t1, l, rfl⟩ : ∃ t0 t1 l, L = t0 :: t1 :: l := by
      have := en.out
      match L, this with
      | [], h => simp at h; omega
      | [_], h => simp at h; omega
      | a :: b :: l, _ => exact ⟨a, b, l, rfl⟩
    have hE : Hid (rdE (t0 :: t1 :: l) = if t0.x = [40] ∧ nameL t1.x = true then (rdA [] 2 l).map (fun p => (⟨⟨t1.x.toArray⟩, p.1⟩, p.2)) else none) := rfl
    obtain ⟨b, off, rfl, hb, T0⟩ := HX.out 0 (by simp)
    obtain ⟨b', off', q, -, T1⟩ := HX.out 1 (by simp)
    injection q with q
    injection q with q1 q2 q3
    subst q1 q2
    have y0 := T0.2.2.1
    have y1 := T1.2.2.1
    simp only [Nat.zero_mul, Nat.add_zero, List.getElem_cons_zero] at y0
    simp only [Nat.one_mul, List.getElem_cons_succ, List.getElem_cons_zero] at y1
    clear T0 T1
    have n0 : (0 : Int) < n := by omega
    have n1 : (1 : Int) < n := by omega
    have cN : Hid (∀ W : World, Calls Tryz.prog 73 #[.string ⟨t1.x.toArray⟩] W fun e' w' => e' = .returned (.bool (nameL t1.x)) ∧ w' = W) := fun W => name_any ⟨t1.x.toArray⟩ W
    by_cases hx : t0.x = [40]
    · have hx' := x_eq hx
      generalize (⟨t0.x.toArray⟩ : ByteArray) = X0 at y0 hx'
      cases hN : nameL t1.x with
      | false =>
        have hE2 : Hid (rdE (t0 :: t1 :: l) = none) := by have h := hE.out; rwa [if_neg (by rw [hN]; simp)] at h
        rw [hN] at cN
        generalize (⟨t1.x.toArray⟩ : ByteArray) = X1 at y1 cN
        go_enter Tryz.func80, Tryz.ntmps80
        go_wp2_with fail
        refine (cN.out _).mono ?_
        rintro e' w1 ⟨rfl, rfl⟩
        go_wp2
        refine bodyPost_ret (by simp [results, Tryz.results80, go_sem]; try rfl) rfl ?_
        exact RdOut.no (by go_grown) hE2.out rfl
      | true =>
        have hE2 : Hid (rdE (t0 :: t1 :: l) = (rdA [] 2 l).map (fun p => (⟨⟨t1.x.toArray⟩, p.1⟩, p.2))) := by have h := hE.out; rwa [if_pos ⟨hx, hN⟩] at h
        rw [hN] at cN
        generalize (⟨t1.x.toArray⟩ : ByteArray) = X1 at y1 cN hE2
        clear hE hx hN
        go_enter Tryz.func80, Tryz.ntmps80
        go_wp2_with fail
        refine (cN.out _).mono ?_
        rintro e' w1 ⟨rfl, rfl⟩
        clear cN
        go_wp2
        go_loopw [6] (fun i wr => ∃ (k : Nat) (acc : List Val) (V : Value), 2 ≤ k ∧ k ≤ n ∧ acc.length ≤ k ∧ i = .int .i64 k ∧ Hid (rdA [] 2 l = rdA acc k ((t0 :: t1 :: l).drop k)) ∧ Hid (wr.heap[w.heap.size + 1]? = some (.cells #[.string X1, V] 48 (0, 0))) ∧ Hid (wr.heap[w.heap.size]? = some (.cells #[.string ⟨#[]⟩, .slice none 0 0] 48 (0, 0))) ∧ Hid (OwnVs (w.heap.size + 2) V acc wr) ∧ Below w.heap.size w wr ∧ w.heap.size + 2 ≤ wr.heap.size) (fun i _ => n - (intOf i).toNat)
        case atStart =>
          refine ⟨2, [], .slice none 0 0, Nat.le_refl _, by omega, by simp, rfl, (show rdA [] 2 l = rdA [] 2 l from rfl), ?_, ?_, ?_, by go_grown, by simp⟩
          · unfold Hid
            show ((w.heap.push _).push _)[w.heap.size + 1]? = _
            rw [Array.getElem?_push, if_pos (by simp)]
          · unfold Hid
            show ((w.heap.push _).push _)[w.heap.size]? = _
            rw [Array.getElem?_push, if_neg (by simp), Array.getElem?_push, if_pos rfl]
          · exact ⟨rfl, .inl ⟨rfl, rfl⟩⟩
        case round =>
          obtain ⟨k, acc, V, hk2, hk, hac, rfl, hr, hev, hres, hown, hB, hsz⟩ := hrel
          have e0 : wr.cell? ⟨w.heap.size + 1, 0, none⟩ = some (.string X1) := by rw [Lib.cell_of_heap hev.out]; rfl
          have e1 : wr.cell? ⟨w.heap.size + 1, 1, none⟩ = some V := by rw [Lib.cell_of_heap hev.out]; rfl
          have q0 : wr.cell? ⟨w.heap.size, 0, none⟩ = some (.string ⟨#[]⟩) := by rw [Lib.cell_of_heap hres.out]; rfl
          have q1 : wr.cell? ⟨w.heap.size, 1, none⟩ = some (.slice none 0 0) := by rw [Lib.cell_of_heap hres.out]; rfl
          have f0 : wr.frozen? ⟨w.heap.size, 0, none⟩ = false := Lib.frozen_of_heap hres.out 0
          have f1 : wr.frozen? ⟨w.heap.size, 1, none⟩ = false := Lib.frozen_of_heap hres.out 1
          obtain ⟨pV, nV, cV, rfl⟩ := hown.out.form
          by_cases hlt : k < n
          · have kx : k < (t0 :: t1 :: l).length := by have := en.out; omega
            obtain ⟨b', off', q, -, TK⟩ := HX.out k kx
            injection q with q
            injection q with qa qb qc
            subst qa qb
            have TK2 := TK.below hB hb
            have hr2 : Hid (rdA [] 2 l = if (t0 :: t1 :: l)[k].x = [41] then some (acc, k + 1) else if (t0 :: t1 :: l)[k].k = 6 then rdA (acc ++ [(t0 :: t1 :: l)[k].v]) (k + 1) ((t0 :: t1 :: l).drop (k + 1)) else none) := by
              have h := hr.out
              rw [List.drop_eq_getElem_cons kx] at h
              exact h
            clear TK hr
            generalize (t0 :: t1 :: l)[k] = t at TK2 hr2
            obtain ⟨a0, a1, a2, a3, a4, a5, a6⟩ := TK2
            have hlt' : (k : Int) < n := by omega
            by_cases hx : t.x = [41]
            · have hr3 : Hid (rdA [] 2 l = some (acc, k + 1)) := by have h := hr2.out; rwa [if_pos hx] at h
              have hE3 : Hid (rdE (t0 :: t1 :: l) = some (⟨X1, acc⟩, k + 1)) := by have h := hE2.out; rw [hr3.out] at h; exact h
              have hx2 := x_eq hx
              generalize (⟨t.x.toArray⟩ : ByteArray) = XT at a2 hx2
              clear hr2 hx
              have g0 : ((wr.setCell ⟨w.heap.size, 0, none⟩ (.string X1)).setCell ⟨w.heap.size, 1, none⟩ (.slice pV nV cV)).cell? ⟨w.heap.size, 0, none⟩ = some (.string X1) := by simp (maxDischargeDepth := 8) [go_sem, q0]
              have g1 : ((wr.setCell ⟨w.heap.size, 0, none⟩ (.string X1)).setCell ⟨w.heap.size, 1, none⟩ (.slice pV nV cV)).cell? ⟨w.heap.size, 1, none⟩ = some (.slice pV nV cV) := by simp (maxDischargeDepth := 8) [go_sem, q1]
              have K9 : Below w.heap.size w ((wr.setCell ⟨w.heap.size, 0, none⟩ (.string X1)).setCell ⟨w.heap.size, 1, none⟩ (.slice pV nV cV)) := (hB.setCell (p := ⟨w.heap.size, 0, none⟩) (Nat.le_refl _) _).setCell (p := ⟨w.heap.size, 1, none⟩) (Nat.le_refl _) _
              have O9 : Hid (OwnVs (w.heap.size + 2) (.slice pV nV cV) acc ((wr.setCell ⟨w.heap.size, 0, none⟩ (.string X1)).setCell ⟨w.heap.size, 1, none⟩ (.slice pV nV cV))) := ownsRow_setCell_below (ownsRow_setCell_below hown.out (a := ⟨w.heap.size, 0, none⟩) (by simp) _) (a := ⟨w.heap.size, 1, none⟩) (by simp) _
              go_wp2
              generalize (wr.setCell ⟨w.heap.size, 0, none⟩ (.string X1)).setCell ⟨w.heap.size, 1, none⟩ (.slice pV nV cV) = W9 at g0 g1 K9 O9 ⊢
              refine bodyPost_ret (by simp [results, Tryz.results80, go_sem, g0, g1]; try rfl) rfl ?_
              exact RdOut.yes K9 hE3.out (by simp) O9.out
            · have hx2 := x_ne hx
              generalize (⟨t.x.toArray⟩ : ByteArray) = XT at a2 hx2
              by_cases h6 : t.k = 6
              · have hr3 : Hid (rdA [] 2 l = rdA (acc ++ [t.v]) (k + 1) ((t0 :: t1 :: l).drop (k + 1))) := by have h := hr2.out; rwa [if_neg hx, if_pos h6] at h
                have h6' : ((t.k : Nat) : Int) = 6 := by omega
                clear hr2 hx
                have hown1 := hown.out
                unfold OwnVs at hown1
                have HO : Hid (wr.ownsRow (w.heap.size + 2) 50 4 (.slice pV nV cV) acc.length (flat acc)) := hown1
                clear hown1
                have hz9 : w.heap.size + 1 < wr.heap.size := by omega
                go_upto_region 10 with fail
                go_region_law (refine step_append_own rfl (.tmp 55) (.tmp 61) 46 rfl (w.heap.size + 2) 50 i0 (.agg #[.int .i64 0, .int .i64 0, .int .i64 0, .string ⟨#[]⟩]) 4 40 Tryz.underlying46 hi hz0 hz1 hz2 rfl (by decide) (.slice pV nV cV) acc.length (flat acc) (by simp [Act.eval]) (World.ownsRow.alloc (World.ownsRow.drew HO.out) _) ⟨wr.heap.size, 0, none⟩ 1 1 [.int .i64 t.v.k, .int .i64 t.v.n, .int .i64 t.v.d, .string t.v.s] (by simp [Act.eval]) rfl (by intro j u hj; rw [Addr.add_lit]; (rcases j with _ | _ | _ | _ | j) <;> simp at hj <;> subst hj <;> simp (maxDischargeDepth := 12) [go_sem]) (by intro u hu; simp at hu; rcases hu with rfl | rfl | rfl | rfl <;> rfl) (by unfold maxLen; omega) (by omega) (by simp; omega) (fun v' w2 h2 h3 => ?_); obtain ⟨pv2, mv2, cv2, rfl, z1, z2, z3, z4, z5, z6, z7⟩ := ev_step (w := w) (n := w.heap.size) (W := wr.drew) (ev := w.heap.size + 1) (nm := X1) (acc := acc) (Y := t.v) hev.out (by omega) hsz (Below.drew hB) (by omega) (World.ownsRow.drew HO.out) h2 h3; have Z3 : Hid ((w2.setCell ⟨w.heap.size + 1, 1, none⟩ (.slice pv2 mv2 cv2)).heap[w.heap.size + 1]? = some (.cells #[.string X1, .slice pv2 mv2 cv2] 48 (0, 0))) := z3; have Z4 : Hid (OwnVs (w.heap.size + 2) (.slice pv2 mv2 cv2) (acc ++ [t.v]) (w2.setCell ⟨w.heap.size + 1, 1, none⟩ (.slice pv2 mv2 cv2))) := z4; have Z7 : Hid ((w2.setCell ⟨w.heap.size + 1, 1, none⟩ (.slice pv2 mv2 cv2)).heap[w.heap.size]? = some (.cells #[.string ⟨#[]⟩, .slice none 0 0] 48 (0, 0))) := (z7 w.heap.size (by omega) (by omega)).trans hres.out; clear h2 h3 z3 z4 z7)
                all_goals
                  go_wp2
                  exact ⟨⟨k + 1, acc ++ [t.v], .slice pv2 mv2 cv2, by omega, by omega, by simp; omega, by go_num, hr3, Z3, Z7, Z4, z5, z6⟩, by simp [intOf]; omega⟩
              · have hr3 : Hid (rdA [] 2 l = none) := by have h := hr2.out; rwa [if_neg hx, if_neg h6] at h
                have h6' : (((t.k : Nat) : Int) == 6) = false := by simp; omega
                clear hr2 hx h6
                have hE3 : Hid (rdE (t0 :: t1 :: l) = none) := by have h := hE2.out; rw [hr3.out] at h; exact h
                have K9 : Below w.heap.size w ((wr.setCell ⟨w.heap.size, 0, none⟩ (.string ⟨#[]⟩)).setCell ⟨w.heap.size, 1, none⟩ (.slice none 0 0)) := (hB.setCell (p := ⟨w.heap.size, 0, none⟩) (Nat.le_refl _) _).setCell (p := ⟨w.heap.size, 1, none⟩) (Nat.le_refl _) _
                have g0 : ((wr.setCell ⟨w.heap.size, 0, none⟩ (.string ⟨#[]⟩)).setCell ⟨w.heap.size, 1, none⟩ (.slice none 0 0)).cell? ⟨w.heap.size, 0, none⟩ = some (.string ⟨#[]⟩) := by simp (maxDischargeDepth := 8) [go_sem, q0]
                have g1 : ((wr.setCell ⟨w.heap.size, 0, none⟩ (.string ⟨#[]⟩)).setCell ⟨w.heap.size, 1, none⟩ (.slice none 0 0)).cell? ⟨w.heap.size, 1, none⟩ = some (.slice none 0 0) := by simp (maxDischargeDepth := 8) [go_sem, q1]
                go_wp2
                generalize (wr.setCell ⟨w.heap.size, 0, none⟩ (.string ⟨#[]⟩)).setCell ⟨w.heap.size, 1, none⟩ (.slice none 0 0) = W9 at g0 g1 K9 ⊢
                refine bodyPost_ret (by simp [results, Tryz.results80, go_sem, g0, g1]; try rfl) rfl ?_
                exact RdOut.no K9 hE3.out rfl
          · have c2 : ¬ (k : Int) < n := by omega
            have hr3 : Hid (rdA [] 2 l = none) := by
              have h := hr.out
              rw [List.drop_eq_nil_of_le (by have := en.out; omega)] at h
              exact h
            have hE3 : Hid (rdE (t0 :: t1 :: l) = none) := by have h := hE2.out; rw [hr3.out] at h; exact h
            have K9 : Below w.heap.size w ((wr.setCell ⟨w.heap.size, 0, none⟩ (.string ⟨#[]⟩)).setCell ⟨w.heap.size, 1, none⟩ (.slice none 0 0)) := (hB.setCell (p := ⟨w.heap.size, 0, none⟩) (Nat.le_refl _) _).setCell (p := ⟨w.heap.size, 1, none⟩) (Nat.le_refl _) _
            have g0 : ((wr.setCell ⟨w.heap.size, 0, none⟩ (.string ⟨#[]⟩)).setCell ⟨w.heap.size, 1, none⟩ (.slice none 0 0)).cell? ⟨w.heap.size, 0, none⟩ = some (.string ⟨#[]⟩) := by simp (maxDischargeDepth := 8) [go_sem, q0]
            have g1 : ((wr.setCell ⟨w.heap.size, 0, none⟩ (.string ⟨#[]⟩)).setCell ⟨w.heap.size, 1, none⟩ (.slice none 0 0)).cell? ⟨w.heap.size, 1, none⟩ = some (.slice none 0 0) := by simp (maxDischargeDepth := 8) [go_sem, q1]
            go_wp2
            generalize (wr.setCell ⟨w.heap.size, 0, none⟩ (.string ⟨#[]⟩)).setCell ⟨w.heap.size, 1, none⟩ (.slice none 0 0) = W9 at g0 g1 K9 ⊢
            refine bodyPost_ret (by simp [results, Tryz.results80, go_sem, g0, g1]; try rfl) rfl ?_
            exact RdOut.no K9 hE3.out rfl
    · have hE2 : Hid (rdE (t0 :: t1 :: l) = none) := by have h := hE.out; rwa [if_neg (fun h => hx h.1)] at h
      have hx' := x_ne hx
      generalize (⟨t0.x.toArray⟩ : ByteArray) = X0 at y0 hx'
      go_enter Tryz.func80, Tryz.ntmps80
      go_wp2
      refine bodyPost_ret (by simp [results, Tryz.results80, go_sem]; try rfl) rfl ?_
      exact RdOut.no (by go_grown) hE2.out rfl

end Go.Proofs.YticmebamclacaaaGreatDoor

namespace Go.Proofs.YticmebamclacaaaGreatDoor
open Go.RowKit LX Go.Shelf
set_option linter.unusedVariables false

theorem own_baseX {w : World} {B B' e size n : Nat} {v : Value} {xs : List Value} (h : w.ownsRow B' e size v n xs) (hB : B ≤ B') : w.ownsRow B e size v n xs := by
  obtain ⟨hl, hv | ⟨g, cap, cur, e1, h1, h2⟩⟩ := h
  · exact ⟨hl, Or.inl hv⟩
  · exact ⟨hl, Or.inr ⟨g, cap, cur, e1, Nat.le_trans hB h1, h2⟩⟩
theorem own_ne2X {w : World} {B e e' size n B' size' n' : Nat} {v v' : Value} {xs xs' : List Value} (h : w.ownsRow B e size v n xs) (h' : w.ownsRow B' e' size' v' n' xs') (hne : e ≠ e') : v.ownBlock = none ∨ v.ownBlock ≠ v'.ownBlock := by
  obtain ⟨-, ⟨rfl, -⟩ | ⟨g, cap, cur', rfl, -, hg, -⟩⟩ := h'
  · by_cases hv : v.ownBlock = none
    · exact Or.inl hv
    · exact Or.inr hv
  · exact Or.inr (own_neX h hg hne)

/-- The cells of events of the call's own. -/
def EvC (B : Nat) (w : World) : List Evt → List Value → Prop
  | [], [] => True
  | e :: es, a :: b :: zs => a = .string e.name ∧ OwnVs B b e.args w ∧ EvC B w es zs
  | _, _ => False
theorem EvC.snoc {B : Nat} {w : World} {es : List Evt} {zs : List Value} {e : Evt} {b : Value} (h : EvC B w es zs) (hb : OwnVs B b e.args w) : EvC B w (es ++ [e]) (zs ++ [.string e.name, b]) := by
  induction es generalizing zs with
  | nil =>
    match zs, h with
    | [], _ => exact ⟨rfl, hb, trivial⟩
  | cons x es ih =>
    match zs, h with
    | a :: b' :: zs, h => exact ⟨h.1, h.2.1, ih h.2.2⟩
theorem EvC.mono {B : Nat} {w w' : World} (k : ∀ b xs, OwnVs B b xs w → OwnVs B b xs w') {es : List Evt} {zs : List Value} (h : EvC B w es zs) : EvC B w' es zs := by
  induction es generalizing zs with
  | nil =>
    match zs, h with
    | [], _ => trivial
  | cons x es ih =>
    match zs, h with
    | a :: b' :: zs, h => exact ⟨h.1, k _ _ h.2.1, ih h.2.2⟩
theorem EvC.get {B : Nat} {w : World} {es : List Evt} {zs : List Value} (h : EvC B w es zs) (i : Nat) (hi : i < es.length) : zs[i * 2]? = some (.string es[i].name) ∧ ∃ u, zs[i * 2 + 1]? = some u ∧ OwnVs B u es[i].args w := by
  induction es generalizing zs i with
  | nil => simp at hi
  | cons x es ih =>
    match zs, h with
    | a :: b' :: zs, h =>
      cases i with
      | zero => exact ⟨by rw [h.1]; rfl, b', rfl, h.2.1⟩
      | succ i =>
        have g := ih h.2.2 i (by simpa using hi)
        rw [show (i + 1) * 2 = i * 2 + 2 by omega]
        exact g
theorem EvC.len {B : Nat} {w : World} {es : List Evt} {zs : List Value} (h : EvC B w es zs) : zs.length = es.length * 2 := by
  induction es generalizing zs with
  | nil =>
    match zs, h with
    | [], _ => rfl
  | cons x es ih =>
    match zs, h with
    | a :: b' :: zs, h => simp only [List.length_cons, ih h.2.2]; omega
/-- Events of the call's own. -/
def OwnE (B : Nat) (v : Value) (es : List Evt) (w : World) : Prop := ∃ zs, w.ownsRow B 48 2 v es.length zs ∧ EvC B w es zs
theorem OwnE.form {B : Nat} {v : Value} {es : List Evt} {w : World} (h : OwnE B v es w) : ∃ p c, v = .slice p es.length c := by
  obtain ⟨zs, ⟨-, ⟨e, hn⟩ | ⟨g, cap, cur, e, -⟩⟩, -⟩ := h
  · exact ⟨none, 0, by rw [e, hn]⟩
  · exact ⟨_, _, e⟩
theorem OwnE.at {B : Nat} {v : Value} {es : List Evt} {w : World} (h : OwnE B v es w) : EvsAt w v es := by
  obtain ⟨zs, h, hc⟩ := h
  have h' := h
  obtain ⟨hl, ⟨e, hn⟩ | ⟨g, cap, cur, rfl, hg1, hg2, -⟩⟩ := h
  · exact ⟨none, 0, by rw [e, hn], Or.inl (List.length_eq_zero_iff.1 hn)⟩
  · refine ⟨_, _, rfl, Or.inr ⟨g, 0, rfl, (Array.getElem?_eq_some_iff.1 hg2).1, fun i hi => ?_⟩⟩
    obtain ⟨c0, u, c1, ho⟩ := hc.get i hi
    refine ⟨u, ?_, ?_, ho.row⟩
    · rw [Nat.zero_add, h'.cellAt _ (by omega)]; exact c0
    · rw [Nat.zero_add, h'.cellAt _ (by omega)]; exact c1
theorem OwnE.below {B : Nat} {v : Value} {es : List Evt} {w w' : World} (h : OwnE B v es w) (hb : Below w.heap.size w w') : OwnE B v es w' := by
  obtain ⟨zs, h, hc⟩ := h
  exact ⟨zs, own_belX h hb, hc.mono fun b xs k => own_belX k hb⟩

theorem rdA_len {l : List (Tok Val)} {acc a : List Val} {i n : Nat} (h : rdA acc i l = some (a, n)) : i < n ∧ n ≤ i + l.length ∧ a.length ≤ acc.length + l.length := by
  induction l generalizing acc i with
  | nil => cases h
  | cons t l ih =>
    unfold rdA at h
    by_cases h1 : t.x = [41]
    · rw [if_pos h1] at h
      injection h with h
      injection h with e1 e2
      subst e1 e2
      simp only [List.length_cons]; omega
    · rw [if_neg h1] at h
      by_cases h2 : t.k = 6
      · rw [if_pos h2] at h
        have := ih h
        simp only [List.length_append, List.length_cons, List.length_nil] at this ⊢
        omega
      · rw [if_neg h2] at h; cases h
theorem rdE_len {L : List (Tok Val)} {e : Evt} {n : Nat} (h : rdE L = some (e, n)) : 2 < n ∧ n ≤ L.length ∧ e.args.length ≤ L.length := by
  match L, h with
  | t0 :: t1 :: l, h =>
    have h : (if t0.x = [40] ∧ nameL t1.x = true then (rdA [] 2 l).map (fun p => ((⟨⟨t1.x.toArray⟩, p.1⟩ : Evt), p.2)) else none) = some (e, n) := h
    by_cases h1 : t0.x = [40] ∧ nameL t1.x = true
    · rw [if_pos h1] at h
      obtain ⟨⟨a, k⟩, q1, q2⟩ := Option.map_eq_some_iff.1 h
      have := rdA_len q1
      injection q2 with e1 e2
      subst e1 e2
      simp only [List.length_cons, List.length_nil] at this ⊢
      omega
    · rw [if_neg h1] at h; cases h
/-- All events. -/
def rdEs : Nat → List Evt → List (Tok Val) → Option (List Evt)
  | 0, acc, _ => some acc
  | f + 1, acc, [] => some acc
  | f + 1, acc, t :: l => match rdE (t :: l) with
    | none => none
    | some (e, n) => rdEs f (acc ++ [e]) ((t :: l).drop n)
theorem rdEs_none {f : Nat} {acc : List Evt} {L : List (Tok Val)} (hL : 0 < L.length) (h : rdE L = none) : rdEs (f + 1) acc L = none := by
  match L, hL with
  | t :: l, _ => unfold rdEs; rw [h]
theorem rdEs_some {f : Nat} {acc : List Evt} {L : List (Tok Val)} {e : Evt} {n : Nat} (hL : 0 < L.length) (h : rdE L = some (e, n)) : rdEs (f + 1) acc L = rdEs f (acc ++ [e]) (L.drop n) := by
  match L, hL with
  | t :: l, _ => rw [rdEs]; rw [h]
theorem rdEs_end {f : Nat} {acc : List Evt} {L : List (Tok Val)} (hL : L.length = 0) : rdEs f acc L = some acc := by
  obtain rfl := List.length_eq_zero_iff.1 hL
  cases f <;> rfl
def slen : Value → Nat
  | .slice _ n _ => n
  | _ => 0
theorem inE : (Tryz.prog.info? 48).map (fun i => (i.zero, i.size, i.bytes)) = some (some (.agg #[.string ⟨#[]⟩, .slice none 0 0]), 2, 40) := by kernel_rfl

/-- What readEvents answers. -/
def RsOut (N : Nat) (w : World) (L : List (Tok Val)) (r : Ending) (w' : World) : Prop := Below N w w' ∧ ((rdEs (L.length + 1) [] L = none ∧ r = .returned (.tuple #[.slice none 0 0, .iface 92 (.agg #[.int .i64 70])])) ∨
      (∃ es p c, rdEs (L.length + 1) [] L = some es ∧ r = .returned (.tuple #[.slice p es.length c, .nilIface]) ∧ OwnE N (.slice p es.length c) es w' ∧ es.length ≤ L.length))
theorem RsOut.no {N : Nat} {w w' : World} {L : List (Tok Val)} {r : Ending} (hb : Below N w w') (h : rdEs (L.length + 1) [] L = none) (hr : r = .returned (.tuple #[.slice none 0 0, .iface 92 (.agg #[.int .i64 70])])) : RsOut N w L r w' := ⟨hb, Or.inl ⟨h, hr⟩⟩
theorem RsOut.yes {N : Nat} {w w' : World} {L : List (Tok Val)} {r : Ending} {es : List Evt} {p : Option Addr} {c m : Nat} (hb : Below N w w') (h : rdEs (L.length + 1) [] L = some es) (hm : m = es.length) (hr : r = .returned (.tuple #[.slice p m c, .nilIface])) (ho : OwnE N (.slice p m c) es w') (hl : es.length ≤ L.length) : RsOut N w L r w' := by
  subst hm
  exact ⟨hb, Or.inr ⟨es, p, c, h, hr, ho, hl⟩⟩

/-- One event more. -/
theorem evs_step {w2 w4 : World} {B : Nat} {v v' u : Value} {es : List Evt} {e : Evt} {zs : List Value} (h2 : B ≤ w2.heap.size) (ho : w2.ownsRow B 48 2 v es.length zs) (hc : EvC B w2 es zs) (hu : OwnVs B u e.args w2)
    (h4 : w4.ownsRow B 48 2 v' (es.length + 1) (zs ++ [.string e.name, u])) (hg : w2.grownBy w4 v.ownBlock) : OwnE B v' (es ++ [e]) w4 := by
  refine ⟨zs ++ [.string e.name, u], by rw [List.length_append]; exact h4, ?_⟩
  have k : ∀ b xs, OwnVs B b xs w2 → OwnVs B b xs w4 := fun b xs hb => World.ownsRow.kept hb hg (own_ne2X hb ho (by decide))
  exact (hc.mono k).snoc (k _ _ hu)

set_option maxRecDepth 100000 in
set_option maxHeartbeats 8000000 in
theorem rdevs_any (V : Value) (L : List (Tok Val)) (w : World) (hV : ToksAt w V L) (lL : L.length ≤ 16384) :
    Calls Tryz.prog 58 #[V] w fun r w' => RsOut w.heap.size w L r w' := by
  have HV : Hid (ToksAt w V L) := hV
  obtain ⟨i0, hi, hz0, hz1, hz2⟩ := info_parts inE
  obtain ⟨p, c, rfl, -⟩ := hV.form
  clear hV
  go_enter Tryz.func58, Tryz.ntmps58
  go_wp2
  go_loopw [0, 4] (fun v0 v4 wr => ∃ (f : Nat) (es : List Evt) (M : List (Tok Val)), Hid (rdEs (L.length + 1) [] L = rdEs f es M) ∧ M.length < f ∧ Hid (ToksAt w v0 M) ∧ Hid (OwnE w.heap.size v4 es wr) ∧ es.length + M.length ≤ L.length ∧ Below w.heap.size w wr ∧ slen v0 = M.length) (fun v0 _ _ => slen v0)
  case atStart => exact ⟨L.length + 1, [], L, (show rdEs (L.length + 1) [] L = rdEs (L.length + 1) [] L from rfl), by omega, HV, ⟨[], ⟨rfl, .inl ⟨rfl, rfl⟩⟩, trivial⟩, by simp, Below.refl _ _, rfl⟩
  case round =>
    obtain ⟨f, es, M, hr, hf, hT, hO, hl, hB, hs⟩ := hrel
    obtain ⟨f, rfl⟩ : ∃ f', f = f' + 1 := ⟨f - 1, by omega⟩
    obtain ⟨p0, c0, rfl, hc0, hX0⟩ := hT.out.form
    obtain ⟨p4, c4, rfl⟩ := hO.out.form
    have ct : Hid (Calls Tryz.prog 80 #[.slice p0 M.length c0] wr fun r w' => RdOut wr.heap.size wr M r w') := rdev_any _ M wr (hT.out.below hB) (by omega)
    by_cases hM : 0 < M.length
    · obtain ⟨b, off, rfl, hb, -⟩ := hX0 0 hM
      clear hX0
      obtain ⟨n, en⟩ : ∃ n : Nat, Hid (M.length = n) := ⟨_, rfl⟩
      obtain ⟨m, em⟩ : ∃ m : Nat, Hid (es.length = m) := ⟨_, rfl⟩
      rw [en.out] at hM hc0 hf hl ct hs ⊢
      rw [em.out] at hl ⊢
      have HT : Hid (ToksAt w (.slice (some ⟨b, off, none⟩) n c0) M) := by have h := hT.out; rwa [en.out] at h
      have HO : Hid (OwnE w.heap.size (.slice p4 m c4) es wr) := by have h := hO.out; rwa [em.out] at h
      clear hT hO hs
      have hM' : (0 : Int) < n := by omega
      go_wp2_with fail
      refine ct.out.mono ?_
      rintro r w1 ⟨hB1, ⟨hn, rfl⟩ | ⟨e, sz, pe, me, ce, hsome, rfl, hown⟩⟩
      · have hE : Hid (rdEs (L.length + 1) [] L = none) := hr.out.trans (rdEs_none (by have := en.out; omega) hn)
        have K1 : Below w.heap.size w w1 := hB.trans (hB1.mono hB.size)
        clear ct hr
        go_wp2
        go_ret2
        exact RsOut.no (K1.alloc K1.size _) hE.out rfl
      · have hE : Hid (rdEs (L.length + 1) [] L = rdEs f (es ++ [e]) (M.drop sz)) := hr.out.trans (rdEs_some (by have := en.out; omega) hsome)
        obtain ⟨z1, z2, z3⟩ := rdE_len hsome
        have K1 : Below w.heap.size w w1 := hB.trans (hB1.mono hB.size)
        have HT1 : Hid (ToksAt w (.slice (some ⟨b, off, none⟩) n c0) M) := HT.out
        have HO1 : Hid (OwnE w.heap.size (.slice p4 m c4) es w1) := HO.out.below hB1
        have HV1 : Hid (OwnVs w.heap.size (.slice pe me ce) e.args w1) := own_baseX hown (by have := hB.size; omega)
        have zn : sz ≤ n := by have := en.out; omega
        clear ct hr hown HT HO hsome
        generalize hnm : e.name = X
        have HX : Hid (e.name = X) := hnm
        clear hnm
        obtain ⟨zs, ho, hcc⟩ := HO1.out
        have HC : Hid (EvC w.heap.size (w1.alloc (.cells #[.string X, .slice pe me ce] 48)) es zs) := hcc.mono fun b xs k => World.ownsRow.alloc k _
        have HC2 : Hid (w1.ownsRow w.heap.size 48 2 (.slice p4 m c4) m zs) := by have h := ho; rwa [em.out] at h
        clear ho hcc HO1
        have hsz1 : w.heap.size ≤ w1.heap.size := K1.size
        go_wp2_with (at_builtin; refine wpList_append_own _ rfl _ _ 24 rfl w.heap.size 48 i0 (.agg #[.string ⟨#[]⟩, .slice none 0 0]) 2 40 Tryz.underlying24 hi hz0 hz1 hz2 rfl (by decide) _ _ _ rfl (World.ownsRow.alloc (World.ownsRow.alloc HC2.out _) _) ⟨w1.heap.size + 1, 0, none⟩ 1 1 [.string X, .slice pe me ce] rfl rfl ?c1 ?c2 ?c3 ?c4 ?c5 ?_)
        case c1 => (intro j u hj; rw [Addr.add_lit]; (rcases j with _ | _ | j) <;> simp at hj <;> subst hj <;> simp (maxDischargeDepth := 12) [go_sem])
        case c2 => (intro u hu; simp at hu; rcases hu with rfl | rfl <;> rfl)
        case c3 => unfold maxLen; omega
        case c4 => omega
        case c5 => simp; omega
        intro v' w4 hown' hgrow _
        have hA1 : Below w.heap.size w ((w1.alloc (.cells #[.string X, .slice pe me ce] 48)).alloc (.cells #[.string X, .slice pe me ce] 48)) := (K1.alloc K1.size _).alloc (by simp; omega) _
        have K4 : Below w.heap.size w w4 := Below.grown hA1 hgrow (by simp; omega) (fun q hq => (World.ownsRow.lt HC2.out q hq).1)
        have HO4 : Hid (OwnE w.heap.size v' (es ++ [e]) w4) := by
          refine evs_step (zs := zs) (u := .slice pe me ce) hA1.size (World.ownsRow.alloc (World.ownsRow.alloc (by rw [em.out]; exact HC2.out) _) _) (HC.out.mono fun b xs k => World.ownsRow.alloc k _) (World.ownsRow.alloc (World.ownsRow.alloc HV1.out _) _) ?_ hgrow
          rw [em.out, HX.out]
          exact hown'
        clear hown' hgrow hA1 HC HC2 HV1
        obtain ⟨pv, cv, rfl⟩ := HO4.out.form
        have hlen : (es ++ [e]).length = m + 1 := by rw [List.length_append, em.out]; rfl
        rw [hlen] at HO4 ⊢
        have hsl : (sz : Int) ≤ n := by omega
        have hs0 : (0 : Int) ≤ sz := by omega
        have hcc : n ≤ c0 := hc0
        go_wp2
        refine ⟨⟨f, es ++ [e], M.drop sz, hE, by rw [List.length_drop, en.out]; omega, ?_, HO4, by rw [hlen, List.length_drop, en.out]; omega, K4, by rw [List.length_drop, en.out]; rfl⟩, by simp only [slen]; omega⟩
        have h9 := ToksAt.drop HT1.out sz z2 (if c0 = sz then some ⟨b, off, none⟩ else some ⟨b, off + sz * 7, none⟩) (fun hlt => if_neg (by have := en.out; omega))
        rw [en.out] at h9
        exact h9
    · have hM0 : M.length = 0 := by omega
      have hE : Hid (rdEs (L.length + 1) [] L = some es) := hr.out.trans (rdEs_end hM0)
      have hle : es.length ≤ L.length := by omega
      have HO : Hid (OwnE w.heap.size (.slice p4 es.length c4) es wr) := hO
      rw [hM0]
      clear ct hX0 hT hr hs hf hc0 hl hM hM0 hO
      obtain ⟨m, em⟩ : ∃ m : Nat, Hid (es.length = m) := ⟨_, rfl⟩
      rw [em.out] at HO ⊢
      go_wp2
      go_ret2
      exact RsOut.yes hB hE.out em.out.symm rfl HO.out hle

end Go.Proofs.YticmebamclacaaaGreatDoor

namespace Go.Proofs.YticmebamclacaaaGreatDoor
open Go.RowKit LX Go.Shelf
set_option linter.unusedVariables false

/-- The kind that a word names. -/
def koL (x : List UInt8) : Int := if x = [105, 110, 116] then 1 else if x = [114, 97, 116] then 2 else if x = [115, 116, 114] then 3 else 0
set_option maxHeartbeats 1000000 in
theorem kindof_any (x : List UInt8) (w : World) :
    Calls Tryz.prog 105 #[.string ⟨x.toArray⟩] w fun e w' => e = .returned (.int .i64 (koL x)) ∧ w' = w := by
  have c1 : Hid (∀ W : World, Calls Tryz.prog 30 #[.int .i64 1] W fun e w' => e = .returned (.string ⟨#[105, 110, 116]⟩) ∧ w' = W) := fun W => kword_any 1 W
  have c2 : Hid (∀ W : World, Calls Tryz.prog 30 #[.int .i64 2] W fun e w' => e = .returned (.string ⟨#[114, 97, 116]⟩) ∧ w' = W) := fun W => kword_any 2 W
  have c3 : Hid (∀ W : World, Calls Tryz.prog 30 #[.int .i64 3] W fun e w' => e = .returned (.string ⟨#[115, 116, 114]⟩) ∧ w' = W) := fun W => kword_any 3 W
  by_cases h1 : x = [105, 110, 116]
  · subst h1
    go_enter Tryz.func105, Tryz.ntmps105
    go_wp2
    refine wp_loop_rounds 1 ?_
    rw [rounds_succ]
    go_wp2_with fail
    refine (c1.out _).mono ?_
    rintro e w1 ⟨rfl, rfl⟩
    go_wp2
    go_ret
    exact ⟨rfl, rfl⟩
  have y1 : (([105, 110, 116] : List UInt8) == (⟨x.toArray⟩ : ByteArray).toList) = false := by rw [ByteArray.toList_eq]; simpa using fun h => h1 h.symm
  by_cases h2 : x = [114, 97, 116]
  · subst h2
    go_enter Tryz.func105, Tryz.ntmps105
    go_wp2
    refine wp_loop_rounds 2 ?_
    rw [rounds_succ]
    go_wp2_with fail
    refine (c1.out _).mono ?_
    rintro e w1 ⟨rfl, rfl⟩
    go_wp2
    rw [rounds_succ]
    go_wp2_with fail
    refine (c2.out _).mono ?_
    rintro e w1 ⟨rfl, rfl⟩
    go_wp2
    go_ret
    exact ⟨rfl, rfl⟩
  have y2 : (([114, 97, 116] : List UInt8) == (⟨x.toArray⟩ : ByteArray).toList) = false := by rw [ByteArray.toList_eq]; simpa using fun h => h2 h.symm
  by_cases h3 : x = [115, 116, 114]
  · subst h3
    go_enter Tryz.func105, Tryz.ntmps105
    go_wp2
    refine wp_loop_rounds 3 ?_
    rw [rounds_succ]
    go_wp2_with fail
    refine (c1.out _).mono ?_
    rintro e w1 ⟨rfl, rfl⟩
    go_wp2
    rw [rounds_succ]
    go_wp2_with fail
    refine (c2.out _).mono ?_
    rintro e w1 ⟨rfl, rfl⟩
    go_wp2
    rw [rounds_succ]
    go_wp2_with fail
    refine (c3.out _).mono ?_
    rintro e w1 ⟨rfl, rfl⟩
    go_wp2
    go_ret
    exact ⟨rfl, rfl⟩
  have y3 : (([115, 116, 114] : List UInt8) == (⟨x.toArray⟩ : ByteArray).toList) = false := by rw [ByteArray.toList_eq]; simpa using fun h => h3 h.symm
  have hz : Hid (koL x = 0) := by unfold Hid koL; rw [if_neg h1, if_neg h2, if_neg h3]
  rw [hz.out]
  generalize (⟨x.toArray⟩ : ByteArray) = X at y1 y2 y3 ⊢
  clear h1 h2 h3
  go_enter Tryz.func105, Tryz.ntmps105
  go_wp2
  refine wp_loop_rounds 4 ?_
  rw [rounds_succ]
  go_wp2_with fail
  refine (c1.out _).mono ?_
  rintro e w1 ⟨rfl, rfl⟩
  go_wp2
  rw [rounds_succ]
  go_wp2_with fail
  refine (c2.out _).mono ?_
  rintro e w1 ⟨rfl, rfl⟩
  go_wp2
  rw [rounds_succ]
  go_wp2_with fail
  refine (c3.out _).mono ?_
  rintro e w1 ⟨rfl, rfl⟩
  go_wp2
  rw [rounds_succ]
  go_wp2
  go_ret
  exact ⟨rfl, rfl⟩

/-- Kinds of the call's own. -/
def kcells (ks : List Int) : List Value := ks.map fun k => .int .i64 k
def OwnK (B : Nat) (v : Value) (ks : List Int) (w : World) : Prop := w.ownsRow B 3 1 v ks.length (kcells ks)
theorem OwnK.at {B : Nat} {v : Value} {ks : List Int} {w : World} (h : OwnK B v ks w) : KAt w v ks := by
  have h' : w.ownsRow B 3 1 v ks.length (kcells ks) := h
  obtain ⟨hl, ⟨e, hn⟩ | ⟨g, cap, cur, rfl, hg1, hg2, -⟩⟩ := h
  · exact ⟨none, 0, by rw [e, hn], Or.inl (List.length_eq_zero_iff.1 hn)⟩
  · refine ⟨_, _, rfl, Or.inr ⟨g, 0, rfl, (Array.getElem?_eq_some_iff.1 hg2).1, fun i hi => ?_⟩⟩
    rw [Nat.zero_add, h'.cellAt _ (by omega)]
    simp [kcells, hi]
theorem OwnK.form {B : Nat} {v : Value} {ks : List Int} {w : World} (h : OwnK B v ks w) : ∃ p n c, v = .slice p n c := by
  obtain ⟨-, ⟨e, hn⟩ | ⟨g, cap, cur, e, -⟩⟩ := h
  · exact ⟨_, _, _, e⟩
  · exact ⟨_, _, _, e⟩
theorem OwnK.len {B : Nat} {p : Option Addr} {n c : Nat} {ks : List Int} {w : World} (h : OwnK B (.slice p n c) ks w) : n = ks.length := by
  obtain ⟨-, ⟨e, hn⟩ | ⟨g, cap, cur, e, -⟩⟩ := h
  · injection e with _ e _; omega
  · injection e with _ e _
theorem inI : (Tryz.prog.info? 3).map (fun i => (i.zero, i.size, i.bytes)) = some (some (.int .i64 0), 1, 8) := by kernel_rfl

def rdK (acc : List Int) : List (Tok Val) → Option (List Int)
  | [] => some acc
  | t :: l => if koL t.x = 0 then none else rdK (acc ++ [koL t.x]) l
def rdD : List (Tok Val) → Option Dec
  | [] => none
  | t :: l => if nameL t.x = true then (rdK [] l).map (fun ks => ⟨⟨t.x.toArray⟩, ks⟩) else none
/-- What readDecl answers. -/
def DdOut (N : Nat) (w : World) (L : List (Tok Val)) (r : Ending) (w' : World) : Prop := Below N w w' ∧ ((rdD L = none ∧ r = .returned (.tuple #[.agg #[.string ⟨#[]⟩, .slice none 0 0], .iface 92 (.agg #[.int .i64 70])])) ∨
      (∃ d p c, rdD L = some d ∧ r = .returned (.tuple #[.agg #[.string d.name, .slice p d.kinds.length c], .nilIface]) ∧ OwnK (N + 2) (.slice p d.kinds.length c) d.kinds w'))
theorem DdOut.no {N : Nat} {w w' : World} {L : List (Tok Val)} {r : Ending} (hb : Below N w w') (h : rdD L = none) (hr : r = .returned (.tuple #[.agg #[.string ⟨#[]⟩, .slice none 0 0], .iface 92 (.agg #[.int .i64 70])])) : DdOut N w L r w' := ⟨hb, Or.inl ⟨h, hr⟩⟩
theorem DdOut.yes {N : Nat} {w w' : World} {L : List (Tok Val)} {r : Ending} {nm : ByteArray} {ks : List Int} {p : Option Addr} {m c : Nat} (hb : Below N w w') (h : rdD L = some ⟨nm, ks⟩) (ho : OwnK (N + 2) (.slice p m c) ks w') (hr : r = .returned (.tuple #[.agg #[.string nm, .slice p m c], .nilIface])) : DdOut N w L r w' := by
  have hm := ho.len
  subst hm
  exact ⟨hb, Or.inr ⟨⟨nm, ks⟩, p, c, h, hr, ho⟩⟩
/-- What stands behind one kind more. -/
theorem dk_step {w W W2 : World} {B ev n : Nat} {nm : ByteArray} {V v' : Value} {acc : List Int} {K : Int} {o : Obj} (hev : W.heap[ev]? = some (.cells #[.string nm, V] 40 (0, 0))) (hlt : ev < B) (hBW : B ≤ W.heap.size) (h0 : Below n w W) (hn : n ≤ ev)
    (hown : W.ownsRow B 3 1 V acc.length (kcells acc))
    (h2 : W2.ownsRow B 3 1 v' (acc.length + 1) (kcells acc ++ [.int .i64 K])) (h3 : (W.alloc o).grownBy W2 V.ownBlock) :
    ∃ p m c, v' = .slice p m c ∧ W2.cell? ⟨ev, 1, none⟩ = some V ∧ W2.frozen? ⟨ev, 1, none⟩ = false ∧
      (W2.setCell ⟨ev, 1, none⟩ v').heap[ev]? = some (.cells #[.string nm, v'] 40 (0, 0)) ∧ OwnK B v' (acc ++ [K]) (W2.setCell ⟨ev, 1, none⟩ v') ∧ Below n w (W2.setCell ⟨ev, 1, none⟩ v') ∧ B ≤ (W2.setCell ⟨ev, 1, none⟩ v').heap.size ∧ (∀ k, k < B → k ≠ ev → (W2.setCell ⟨ev, 1, none⟩ v').heap[k]? = W.heap[k]?) := by
  have hne : ∀ k, k < B → V.ownBlock ≠ some k := fun k hk e => by have := (World.ownsRow.lt hown k e).1; omega
  have keep : ∀ k, k < B → W2.heap[k]? = W.heap[k]? := fun k hk => by
    have e1 := h3.block k (by simp; omega) (fun e => hne k hk e.symm)
    rw [e1]
    show (W.heap.push _)[k]? = _
    rw [Array.getElem?_push, if_neg (by omega)]
  have hev2 : W2.heap[ev]? = some (.cells #[.string nm, V] 40 (0, 0)) := (keep ev hlt).trans hev
  obtain ⟨p, m, c, rfl⟩ : ∃ p m c, v' = .slice p m c := by
    obtain ⟨-, ⟨e, hn⟩ | ⟨g, cap, cur, e, -⟩⟩ := h2
    · exact ⟨_, _, _, e⟩
    · exact ⟨_, _, _, e⟩
  have hB2 : Below n w W2 := Below.grown (h0.alloc (by omega) _) h3 (by simp; omega) (fun q hq => by have := (World.ownsRow.lt hown q hq).1; omega)
  have hs2 : B ≤ W2.heap.size := Nat.le_trans hBW (Nat.le_trans (by simp) h3.size)
  have hg := grownBy_setX W2 ev 1 (.slice p m c)
  refine ⟨p, m, c, rfl, ?_, Lib.frozen_of_heap hev2 1, ?_, ?_, ?_, ?_, ?_⟩
  · rw [Lib.cell_of_heap hev2]; rfl
  · show (W2.heap.modify ev _)[ev]? = _
    rw [Array.getElem?_modify, if_pos rfl, hev2]
    rfl
  · unfold OwnK kcells
    rw [List.map_append, List.length_append]
    exact ownsRow_setCell_below h2 (a := ⟨ev, 1, none⟩) hlt _
  · exact hB2.grown hg (by omega) (fun q hq => by injection hq with hq; omega)
  · exact Nat.le_trans hs2 hg.size
  · intro k hk hke
    exact (hg.block k (by omega) (fun e => hke (by injection e))).trans (keep k hk)

set_option maxRecDepth 100000 in
set_option maxHeartbeats 2000000 in
theorem rddecl_any (V : Value) (t : Tok Val) (l : List (Tok Val)) (w : World) (hV : ToksAt w V (t :: l)) (lL : (t :: l).length ≤ 16384) :
    Calls Tryz.prog 77 #[V] w fun r w' => DdOut w.heap.size w (t :: l) r w' := by
  obtain ⟨p, c, rfl, hc, HX0⟩ := hV.form
  have HX : Hid (∀ i (hi : i < (t :: l).length), ∃ b off, p = some ⟨b, off, none⟩ ∧ b < w.heap.size ∧ TokC w b (off + i * 7) (t :: l)[i]) := HX0
  have hE : Hid (rdD (t :: l) = if nameL t.x = true then (rdK [] l).map (fun ks => ⟨⟨t.x.toArray⟩, ks⟩) else none) := rfl
  clear hV HX0
  obtain ⟨i0, hi, hz0, hz1, hz2⟩ := info_parts inI
  obtain ⟨b, off, rfl, hb, T0⟩ := HX.out 0 (by simp)
  have y0 := T0.2.2.1
  simp only [Nat.zero_mul, Nat.add_zero, List.getElem_cons_zero] at y0
  clear T0
  obtain ⟨n, en⟩ : ∃ n : Nat, Hid (l.length = n) := ⟨_, rfl⟩
  have hlen : (t :: l).length = n + 1 := by rw [List.length_cons, en.out]
  rw [hlen] at hc lL ⊢
  clear hlen
  have n0 : (0 : Int) < ((n + 1 : Nat) : Int) := by omega
  have n1 : (1 : Int) ≤ ((n + 1 : Nat) : Int) := by omega
  have cN : Hid (∀ W : World, Calls Tryz.prog 73 #[.string ⟨t.x.toArray⟩] W fun e' w' => e' = .returned (.bool (nameL t.x)) ∧ w' = W) := fun W => name_any ⟨t.x.toArray⟩ W
  cases hN : nameL t.x with
  | false =>
    have hE2 : Hid (rdD (t :: l) = none) := by have h := hE.out; rwa [if_neg (by rw [hN]; simp)] at h
    rw [hN] at cN
    generalize (⟨t.x.toArray⟩ : ByteArray) = X1 at y0 cN
    go_enter Tryz.func77, Tryz.ntmps77
    go_wp2_with fail
    refine (cN.out _).mono ?_
    rintro e' w1 ⟨rfl, rfl⟩
    go_wp2
    refine bodyPost_ret (by simp [results, Tryz.results77, go_sem]; try rfl) rfl ?_
    exact DdOut.no (by go_grown) hE2.out rfl
  | true =>
    have hE2 : Hid (rdD (t :: l) = (rdK [] l).map (fun ks => ⟨⟨t.x.toArray⟩, ks⟩)) := by have h := hE.out; rwa [if_pos hN] at h
    rw [hN] at cN
    generalize (⟨t.x.toArray⟩ : ByteArray) = X1 at y0 cN hE2
    clear hE hN
    by_cases hc1 : c = 1
    · subst hc1
      obtain rfl : n = 0 := by omega
      have HTK : Hid (∀ k (hk : k < l.length), TokC w b (off + k * 7) l[k]) := fun k hk => absurd hk (by have := en.out; omega)
      clear hc HTK
      have hE3 : Hid (rdD (t :: l) = some ⟨X1, []⟩) := by
        have h0 : l = [] := List.length_eq_zero_iff.1 en.out
        have h := hE2.out
        rw [h0] at h ⊢
        exact h
      go_enter Tryz.func77, Tryz.ntmps77
      go_wp2_with fail
      refine (cN.out _).mono ?_
      rintro e' w1 ⟨rfl, rfl⟩
      clear cN
      go_wp2
      refine wpX_world ?_
      intro W1 hW1
      have e0 : W1.cell? ⟨w.heap.size + 1, 0, none⟩ = some (.string X1) := by rw [hW1]; simp [go_sem]
      have e1 : W1.cell? ⟨w.heap.size + 1, 1, none⟩ = some (.slice none 0 0) := by rw [hW1]; simp [go_sem]
      have q0 : W1.cell? ⟨w.heap.size, 0, none⟩ = some (.string ⟨#[]⟩) := by rw [hW1]; simp [go_sem]
      have q1 : W1.cell? ⟨w.heap.size, 1, none⟩ = some (.slice none 0 0) := by rw [hW1]; simp [go_sem]
      have f0 : W1.frozen? ⟨w.heap.size, 0, none⟩ = false := by rw [hW1]; simp [go_sem]
      have f1 : W1.frozen? ⟨w.heap.size, 1, none⟩ = false := by rw [hW1]; simp [go_sem]
      have hB : Below w.heap.size w W1 := by rw [hW1]; go_grown
      clear hW1
      have g0 : ((W1.setCell ⟨w.heap.size, 0, none⟩ (.string X1)).setCell ⟨w.heap.size, 1, none⟩ (.slice none 0 0)).cell? ⟨w.heap.size, 0, none⟩ = some (.string X1) := by simp (maxDischargeDepth := 8) [go_sem, q0]
      have g1 : ((W1.setCell ⟨w.heap.size, 0, none⟩ (.string X1)).setCell ⟨w.heap.size, 1, none⟩ (.slice none 0 0)).cell? ⟨w.heap.size, 1, none⟩ = some (.slice none 0 0) := by simp (maxDischargeDepth := 8) [go_sem, q1]
      have K9 : Below w.heap.size w ((W1.setCell ⟨w.heap.size, 0, none⟩ (.string X1)).setCell ⟨w.heap.size, 1, none⟩ (.slice none 0 0)) := (hB.setCell (p := ⟨w.heap.size, 0, none⟩) (Nat.le_refl _) _).setCell (p := ⟨w.heap.size, 1, none⟩) (Nat.le_refl _) _
      refine wp_loop_rounds 1 ?_
      rw [rounds_succ]
      go_wp2
      generalize (W1.setCell ⟨w.heap.size, 0, none⟩ (.string X1)).setCell ⟨w.heap.size, 1, none⟩ (.slice none 0 0) = W9 at g0 g1 K9 ⊢
      refine bodyPost_ret (by simp [results, Tryz.results77, go_sem, g0, g1]; try rfl) rfl ?_
      exact DdOut.yes K9 hE3.out ⟨rfl, .inl ⟨rfl, rfl⟩⟩ rfl
    · have HTK : Hid (∀ k (hk : k < l.length), TokC w b (off + 7 + k * 7) l[k]) := fun k hk => by
        obtain ⟨b', off', q, -, h⟩ := HX.out (k + 1) (by simp; omega)
        injection q with q
        injection q with qa qb qc
        subst qa qb
        rw [List.getElem_cons_succ] at h
        rw [show off + 7 + k * 7 = off + (k + 1) * 7 by omega]
        exact h
      go_enter Tryz.func77, Tryz.ntmps77
      go_wp2_with fail
      refine (cN.out _).mono ?_
      rintro e' w1 ⟨rfl, rfl⟩
      clear cN
      go_wp2
      go_loopw [23] (fun i wr => ∃ (k : Nat) (acc : List Int) (V : Value), k ≤ n ∧ acc.length = k ∧ i = .int .i64 k ∧ Hid (rdK [] l = rdK acc (l.drop k)) ∧ Hid (wr.heap[w.heap.size + 1]? = some (.cells #[.string X1, V] 40 (0, 0))) ∧ Hid (wr.heap[w.heap.size]? = some (.cells #[.string ⟨#[]⟩, .slice none 0 0] 40 (0, 0))) ∧ Hid (OwnK (w.heap.size + 2) V acc wr) ∧ Below w.heap.size w wr ∧ w.heap.size + 2 ≤ wr.heap.size) (fun i _ => n - (intOf i).toNat)
      case atStart =>
        refine ⟨0, [], .slice none 0 0, Nat.zero_le _, rfl, rfl, (show rdK [] l = rdK [] l from rfl), ?_, ?_, ?_, by go_grown, by simp⟩
        · unfold Hid
          show ((w.heap.push _).push _)[w.heap.size + 1]? = _
          rw [Array.getElem?_push, if_pos (by simp)]
        · unfold Hid
          show ((w.heap.push _).push _)[w.heap.size]? = _
          rw [Array.getElem?_push, if_neg (by simp), Array.getElem?_push, if_pos rfl]
        · exact ⟨rfl, .inl ⟨rfl, rfl⟩⟩
      case round =>
        obtain ⟨k, acc, V, hk, hac0, rfl, hr, hev, hres, hown, hB, hsz⟩ := hrel
        have HAC : Hid (acc.length = k) := hac0
        clear hac0
        have e0 : wr.cell? ⟨w.heap.size + 1, 0, none⟩ = some (.string X1) := by rw [Lib.cell_of_heap hev.out]; rfl
        have e1 : wr.cell? ⟨w.heap.size + 1, 1, none⟩ = some V := by rw [Lib.cell_of_heap hev.out]; rfl
        have q0 : wr.cell? ⟨w.heap.size, 0, none⟩ = some (.string ⟨#[]⟩) := by rw [Lib.cell_of_heap hres.out]; rfl
        have q1 : wr.cell? ⟨w.heap.size, 1, none⟩ = some (.slice none 0 0) := by rw [Lib.cell_of_heap hres.out]; rfl
        have f0 : wr.frozen? ⟨w.heap.size, 0, none⟩ = false := Lib.frozen_of_heap hres.out 0
        have f1 : wr.frozen? ⟨w.heap.size, 1, none⟩ = false := Lib.frozen_of_heap hres.out 1
        have hz9 : w.heap.size + 1 < wr.heap.size := by omega
        have hz8 : w.heap.size < wr.heap.size := by omega
        obtain ⟨pV, nV, cV, rfl⟩ := hown.out.form
        by_cases hlt : k < n
        · have kx : k < l.length := by have := en.out; omega
          have TK2 := (HTK.out k kx).below hB hb
          have hr2 : Hid (rdK [] l = if koL l[k].x = 0 then none else rdK (acc ++ [koL l[k].x]) (l.drop (k + 1))) := by
            have h := hr.out
            rw [List.drop_eq_getElem_cons kx] at h
            exact h
          have cK : Hid (∀ W : World, Calls Tryz.prog 105 #[.string ⟨l[k].x.toArray⟩] W fun e w' => e = .returned (.int .i64 (koL l[k].x)) ∧ w' = W) := fun W => kindof_any _ W
          clear hr
          generalize l[k] = u at TK2 hr2 cK
          obtain ⟨a0, a1, a2, a3, a4, a5, a6⟩ := TK2
          generalize (⟨u.x.toArray⟩ : ByteArray) = XT at a2 cK
          generalize koL u.x = K at cK hr2
          have hlt' : (k : Int) < n := by omega
          by_cases hK : K = 0
          · have hr3 : Hid (rdK [] l = none) := by have h := hr2.out; rwa [if_pos hK] at h
            have hE3 : Hid (rdD (t :: l) = none) := by have h := hE2.out; rw [hr3.out] at h; exact h
            subst hK
            clear hr2
            go_wp2_with fail
            refine (cK.out _).mono ?_
            rintro e' w2 ⟨rfl, rfl⟩
            clear cK
            dsimp only
            have hA : Below wr.heap.size wr (wr.alloc (.cells #[.int .i64 u.k, .int .i64 u.at_, .string XT, .int .i64 u.v.k, .int .i64 u.v.n, .int .i64 u.v.d, .string u.v.s] 109)) := by go_grown
            have hzA : wr.heap.size < (wr.alloc (.cells #[.int .i64 u.k, .int .i64 u.at_, .string XT, .int .i64 u.v.k, .int .i64 u.v.n, .int .i64 u.v.d, .string u.v.s] 109)).heap.size := by simp
            generalize wr.alloc (.cells #[.int .i64 u.k, .int .i64 u.at_, .string XT, .int .i64 u.v.k, .int .i64 u.v.n, .int .i64 u.v.d, .string u.v.s] 109) = W0 at hA hzA ⊢
            have HEV : Hid (W0.heap[w.heap.size + 1]? = some (.cells #[.string X1, .slice pV nV cV] 40 (0, 0))) := (hA.block _ hz9).trans hev.out
            have HRS : Hid (W0.heap[w.heap.size]? = some (.cells #[.string ⟨#[]⟩, .slice none 0 0] 40 (0, 0))) := (hA.block _ hz8).trans hres.out
            have HOW : Hid (W0.ownsRow (w.heap.size + 2) 3 1 (.slice pV nV cV) acc.length (kcells acc)) := own_belX hown.out hA
            have E1 : W0.cell? ⟨w.heap.size + 1, 1, none⟩ = some (.slice pV nV cV) := by rw [Lib.cell_of_heap HEV.out]; rfl
            have Q0 : W0.cell? ⟨w.heap.size, 0, none⟩ = some (.string ⟨#[]⟩) := by rw [Lib.cell_of_heap HRS.out]; rfl
            have Q1 : W0.cell? ⟨w.heap.size, 1, none⟩ = some (.slice none 0 0) := by rw [Lib.cell_of_heap HRS.out]; rfl
            have F0 : W0.frozen? ⟨w.heap.size, 0, none⟩ = false := Lib.frozen_of_heap HRS.out 0
            have F1 : W0.frozen? ⟨w.heap.size, 1, none⟩ = false := Lib.frozen_of_heap HRS.out 1
            have KB : Below w.heap.size w W0 := hB.trans (hA.mono hB.size)
            have KZ : w.heap.size + 2 ≤ W0.heap.size := by omega
            clear e0 e1 q0 q1 f0 f1
            have g0 : ((W0.setCell ⟨w.heap.size, 0, none⟩ (.string ⟨#[]⟩)).setCell ⟨w.heap.size, 1, none⟩ (.slice none 0 0)).cell? ⟨w.heap.size, 0, none⟩ = some (.string ⟨#[]⟩) := by simp (maxDischargeDepth := 8) [go_sem, Q0]
            have g1 : ((W0.setCell ⟨w.heap.size, 0, none⟩ (.string ⟨#[]⟩)).setCell ⟨w.heap.size, 1, none⟩ (.slice none 0 0)).cell? ⟨w.heap.size, 1, none⟩ = some (.slice none 0 0) := by simp (maxDischargeDepth := 8) [go_sem, Q1]
            have K9 : Below w.heap.size w ((W0.setCell ⟨w.heap.size, 0, none⟩ (.string ⟨#[]⟩)).setCell ⟨w.heap.size, 1, none⟩ (.slice none 0 0)) := (KB.setCell (p := ⟨w.heap.size, 0, none⟩) (Nat.le_refl _) _).setCell (p := ⟨w.heap.size, 1, none⟩) (Nat.le_refl _) _
            go_wp2
            generalize (W0.setCell ⟨w.heap.size, 0, none⟩ (.string ⟨#[]⟩)).setCell ⟨w.heap.size, 1, none⟩ (.slice none 0 0) = W9 at g0 g1 K9 ⊢
            refine bodyPost_ret (by simp [results, Tryz.results77, go_sem, g0, g1]; try rfl) rfl ?_
            exact DdOut.no K9 hE3.out rfl
          · have hr3 : Hid (rdK [] l = rdK (acc ++ [K]) (l.drop (k + 1))) := by have h := hr2.out; rwa [if_neg hK] at h
            have hK' : (K == 0) = false := by simpa using hK
            clear hr2
            go_wp2_with fail
            refine (cK.out _).mono ?_
            rintro e' w2 ⟨rfl, rfl⟩
            clear cK a0 a1 a2 a3 a4 a5 a6
            dsimp only
            have hA : Below wr.heap.size wr (wr.alloc (.cells #[.int .i64 u.k, .int .i64 u.at_, .string XT, .int .i64 u.v.k, .int .i64 u.v.n, .int .i64 u.v.d, .string u.v.s] 109)) := by go_grown
            have hzA : wr.heap.size < (wr.alloc (.cells #[.int .i64 u.k, .int .i64 u.at_, .string XT, .int .i64 u.v.k, .int .i64 u.v.n, .int .i64 u.v.d, .string u.v.s] 109)).heap.size := by simp
            generalize wr.alloc (.cells #[.int .i64 u.k, .int .i64 u.at_, .string XT, .int .i64 u.v.k, .int .i64 u.v.n, .int .i64 u.v.d, .string u.v.s] 109) = W0 at hA hzA ⊢
            have HEV : Hid (W0.heap[w.heap.size + 1]? = some (.cells #[.string X1, .slice pV nV cV] 40 (0, 0))) := (hA.block _ hz9).trans hev.out
            have HRS : Hid (W0.heap[w.heap.size]? = some (.cells #[.string ⟨#[]⟩, .slice none 0 0] 40 (0, 0))) := (hA.block _ hz8).trans hres.out
            have HOW : Hid (W0.ownsRow (w.heap.size + 2) 3 1 (.slice pV nV cV) acc.length (kcells acc)) := own_belX hown.out hA
            have E1 : W0.cell? ⟨w.heap.size + 1, 1, none⟩ = some (.slice pV nV cV) := by rw [Lib.cell_of_heap HEV.out]; rfl
            have Q0 : W0.cell? ⟨w.heap.size, 0, none⟩ = some (.string ⟨#[]⟩) := by rw [Lib.cell_of_heap HRS.out]; rfl
            have Q1 : W0.cell? ⟨w.heap.size, 1, none⟩ = some (.slice none 0 0) := by rw [Lib.cell_of_heap HRS.out]; rfl
            have F0 : W0.frozen? ⟨w.heap.size, 0, none⟩ = false := Lib.frozen_of_heap HRS.out 0
            have F1 : W0.frozen? ⟨w.heap.size, 1, none⟩ = false := Lib.frozen_of_heap HRS.out 1
            have KB : Below w.heap.size w W0 := hB.trans (hA.mono hB.size)
            have KZ : w.heap.size + 2 ≤ W0.heap.size := by omega
            clear e0 e1 q0 q1 f0 f1
            have hkb : acc.length ≤ 16384 := by have := HAC.out; omega
            go_wp2_with (at_builtin; refine wpList_append_own _ rfl _ _ 38 rfl (w.heap.size + 2) 3 i0 (.int .i64 0) 1 8 Tryz.underlying38 hi hz0 hz1 hz2 rfl (by decide) _ _ _ rfl (World.ownsRow.alloc HOW.out _) ⟨W0.heap.size, 0, none⟩ 1 1 [.int .i64 K] rfl rfl ?c1 ?c2 ?c3 ?c4 ?c5 ?_)
            case c1 => (intro j z hj; rw [Addr.add_lit]; (rcases j with _ | j) <;> simp at hj; subst hj; simp (maxDischargeDepth := 12) [go_sem])
            case c2 => (intro z hz; simp at hz; subst hz; rfl)
            case c3 => unfold maxLen; omega
            case c4 => omega
            case c5 => simp; omega
            intro v' w4 hown' hgrow _
            obtain ⟨pv2, mv2, cv2, rfl, z1, z2, z3, z4, z5, z6, z7⟩ := dk_step (w := w) (n := w.heap.size) (ev := w.heap.size + 1) (K := K) HEV.out (by omega) KZ KB (by omega) HOW.out hown' hgrow
            have Z3 : Hid ((w4.setCell ⟨w.heap.size + 1, 1, none⟩ (.slice pv2 mv2 cv2)).heap[w.heap.size + 1]? = some (.cells #[.string X1, .slice pv2 mv2 cv2] 40 (0, 0))) := z3
            have Z4 : Hid (OwnK (w.heap.size + 2) (.slice pv2 mv2 cv2) (acc ++ [K]) (w4.setCell ⟨w.heap.size + 1, 1, none⟩ (.slice pv2 mv2 cv2))) := z4
            have Z7 : Hid ((w4.setCell ⟨w.heap.size + 1, 1, none⟩ (.slice pv2 mv2 cv2)).heap[w.heap.size]? = some (.cells #[.string ⟨#[]⟩, .slice none 0 0] 40 (0, 0))) := (z7 w.heap.size (by omega) (by omega)).trans HRS.out
            have hl9 : (acc ++ [K]).length = k + 1 := by rw [List.length_append, HAC.out]; rfl
            have HL9 : Hid ((acc ++ [K]).length = k + 1) := hl9
            clear hown' hgrow z3 z4 z7 HEV HRS HOW hl9 hkb
            go_wp2
            exact ⟨⟨k + 1, acc ++ [K], .slice pv2 mv2 cv2, by omega, HL9.out, by go_num, hr3, Z3, Z7, Z4, z5, z6⟩, by simp [intOf]; omega⟩
        · have c2 : ¬ (k : Int) < n := by omega
          have hr3 : Hid (rdK [] l = some acc) := by
            have h := hr.out
            rw [List.drop_eq_nil_of_le (by have := en.out; omega)] at h
            exact h
          have hE3 : Hid (rdD (t :: l) = some ⟨X1, acc⟩) := by have h := hE2.out; rw [hr3.out] at h; exact h
          have g0 : ((wr.setCell ⟨w.heap.size, 0, none⟩ (.string X1)).setCell ⟨w.heap.size, 1, none⟩ (.slice pV nV cV)).cell? ⟨w.heap.size, 0, none⟩ = some (.string X1) := by simp (maxDischargeDepth := 8) [go_sem, q0]
          have g1 : ((wr.setCell ⟨w.heap.size, 0, none⟩ (.string X1)).setCell ⟨w.heap.size, 1, none⟩ (.slice pV nV cV)).cell? ⟨w.heap.size, 1, none⟩ = some (.slice pV nV cV) := by simp (maxDischargeDepth := 8) [go_sem, q1]
          have K9 : Below w.heap.size w ((wr.setCell ⟨w.heap.size, 0, none⟩ (.string X1)).setCell ⟨w.heap.size, 1, none⟩ (.slice pV nV cV)) := (hB.setCell (p := ⟨w.heap.size, 0, none⟩) (Nat.le_refl _) _).setCell (p := ⟨w.heap.size, 1, none⟩) (Nat.le_refl _) _
          have O9 : Hid (OwnK (w.heap.size + 2) (.slice pV nV cV) acc ((wr.setCell ⟨w.heap.size, 0, none⟩ (.string X1)).setCell ⟨w.heap.size, 1, none⟩ (.slice pV nV cV))) := ownsRow_setCell_below (ownsRow_setCell_below hown.out (a := ⟨w.heap.size, 0, none⟩) (by simp) _) (a := ⟨w.heap.size, 1, none⟩) (by simp) _
          go_wp2
          generalize (wr.setCell ⟨w.heap.size, 0, none⟩ (.string X1)).setCell ⟨w.heap.size, 1, none⟩ (.slice pV nV cV) = W9 at g0 g1 K9 O9 ⊢
          refine bodyPost_ret (by simp [results, Tryz.results77, go_sem, g0, g1]; try rfl) rfl ?_
          exact DdOut.yes K9 hE3.out O9.out rfl

end Go.Proofs.YticmebamclacaaaGreatDoor
