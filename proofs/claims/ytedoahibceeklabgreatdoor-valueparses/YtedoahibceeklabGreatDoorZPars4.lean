/- The law ValueParses of package custoslaw02 returns true at every text of at most 1048575 letters. Its condition besides: the package-level variables of the library that it lists start as the program lays them (the card ties them). -/
import Derived.Test.YtedoahibceeklabGreatDoorZPars3
import Derived.Test.YtedoahibceeklabGreatDoorVLive
import Derived.Test.YtedoahibceeklabGreatDoorCards
import Derived.Test.YtedoahibceeklabGreatDoorTie
import Derived.ProofKit
import Derived.OpenShut
import Derived.Lib.SmallJoins
import Derived.Carry
import Derived.ChangeMaps5
import Derived.Deep.DeepHandedRow
import Derived.Lib.LaidTab
import Derived.Stop.LaidErr

namespace Go.Proofs.YtedoahibceeklabGreatDoor
open Go.RowKit Go.Shelf
set_option linter.unusedVariables false

theorem BlkV.set0 {W : World} {B : Nat} {k n d x : Int} {s : ByteArray} (h : BlkV W B k n d s) : BlkV (W.setCell ⟨B, 0, none⟩ (.int .i64 x)) B x n d s := by
  obtain ⟨c0, c1, c2, c3, f0, f1, f2, f3⟩ := h
  constructor <;> simp (maxDischargeDepth := 12) [go_sem, c0, c1, c2, c3, f0, f1, f2, f3]
theorem BlkV.set1 {W : World} {B : Nat} {k n d x : Int} {s : ByteArray} (h : BlkV W B k n d s) : BlkV (W.setCell ⟨B, 1, none⟩ (.int .i64 x)) B k x d s := by
  obtain ⟨c0, c1, c2, c3, f0, f1, f2, f3⟩ := h
  constructor <;> simp (maxDischargeDepth := 12) [go_sem, c0, c1, c2, c3, f0, f1, f2, f3]
theorem BlkV.set2 {W : World} {B : Nat} {k n d x : Int} {s : ByteArray} (h : BlkV W B k n d s) : BlkV (W.setCell ⟨B, 2, none⟩ (.int .i64 x)) B k n x s := by
  obtain ⟨c0, c1, c2, c3, f0, f1, f2, f3⟩ := h
  constructor <;> simp (maxDischargeDepth := 12) [go_sem, c0, c1, c2, c3, f0, f1, f2, f3]
theorem BlkV.off {W : World} {B C o : Nat} {k n d : Int} {s : ByteArray} {v : Value} (h : BlkV W B k n d s) (hn : B ≠ C) : BlkV (W.setCell ⟨C, o, none⟩ v) B k n d s := by
  obtain ⟨c0, c1, c2, c3, f0, f1, f2, f3⟩ := h
  constructor <;> simp (maxDischargeDepth := 12) [go_sem, *]

set_option maxRecDepth 100000 in
set_option maxHeartbeats 4000000 in
theorem dp_bad (s T Q : ByteArray) (c : UInt8) (w : World) (h0 : 0 < s.size) (hc : s[0] = c) (h34 : ((c.toNat : Int) == 34) = true)
    (UN : Hid (∀ W : World, Calls Tryz.prog 32 #[.string s] W fun e w' => e = .returned (.string T) ∧ Below W.heap.size W w'))
    (QU : Hid (∀ W : World, Calls Tryz.prog 29 #[.string T] W fun e w' => e = .returned (.string Q) ∧ Below W.heap.size W w')) (hq : (Q.toList == s.toList) = false) :
    Calls Tryz.prog 17 #[.string s] w fun e w' => e = .returned (.tuple #[.agg #[.int .i64 0, .int .i64 0, .int .i64 0, .string ⟨#[]⟩], .int .i64 70]) ∧ Below w.heap.size w w' := by
  have h0' : (0 : Int) < s.size := by omega
  go_enter Tryz.func17, Tryz.ntmps17
  go_wp2_with fail
  refine (UN.out _).mono ?_
  rintro e w1 ⟨rfl, hb1⟩
  have R1 : Hid (BlkV w1 w.heap.size 0 0 0 ⟨#[]⟩) := BlkV.below (by constructor <;> simp (maxDischargeDepth := 12) [go_sem]) hb1 (by simp)
  have B1 : Below w.heap.size w w1 := ((Below.refl _ w).alloc (Nat.le_refl _) _).trans (hb1.mono (by simp))
  have z1 : w.heap.size < w1.heap.size := by have := hb1.size; simp at this; omega
  clear hb1
  go_wp2_with fail
  refine (QU.out _).mono ?_
  rintro e w2 ⟨rfl, hb2⟩
  have R2 : Hid (BlkV w2 w.heap.size 0 0 0 ⟨#[]⟩) := R1.out.below hb2 z1
  have B2 : Below w.heap.size w w2 := B1.trans (hb2.mono B1.size)
  clear hb2 R1 B1 z1
  obtain ⟨r0, r1, r2, r3, r4, r5, r6, r7⟩ := R2.out
  go_wp2
  generalize hW9 : World.setCell _ _ _ = W9
  have b9 : BlkV W9 w.heap.size 0 0 0 ⟨#[]⟩ := by rw [← hW9]; exact R2.out.four
  have hB9 : Below w.heap.size w W9 := by rw [← hW9]; exact (((B2.setCell (by simp) _).setCell (by simp) _).setCell (by simp) _).setCell (by simp) _
  clear hW9
  obtain ⟨x0, x1, x2, x3, -, -, -, -⟩ := b9
  refine bodyPost_ret (by simp [results, Tryz.results17, go_sem, x0, x1, x2, x3]; try rfl) rfl ?_
  exact ⟨rfl, hB9⟩

set_option maxRecDepth 100000 in
set_option maxHeartbeats 4000000 in
theorem dp_long (s T Q : ByteArray) (c : UInt8) (w : World) (h0 : 0 < s.size) (hc : s[0] = c) (h34 : ((c.toNat : Int) == 34) = true)
    (UN : Hid (∀ W : World, Calls Tryz.prog 32 #[.string s] W fun e w' => e = .returned (.string T) ∧ Below W.heap.size W w'))
    (QU : Hid (∀ W : World, Calls Tryz.prog 29 #[.string T] W fun e w' => e = .returned (.string Q) ∧ Below W.heap.size W w')) (hq : Q = s) (hl : 64 < T.size) :
    Calls Tryz.prog 17 #[.string s] w fun e w' => e = .returned (.tuple #[.agg #[.int .i64 0, .int .i64 0, .int .i64 0, .string ⟨#[]⟩], .int .i64 2]) ∧ Below w.heap.size w w' := by
  have h0' : (0 : Int) < s.size := by omega
  subst hq
  have hl2 : (64 : Int) < T.size := by omega
  go_enter Tryz.func17, Tryz.ntmps17
  go_wp2_with fail
  refine (UN.out _).mono ?_
  rintro e w1 ⟨rfl, hb1⟩
  have R1 : Hid (BlkV w1 w.heap.size 0 0 0 ⟨#[]⟩) := BlkV.below (by constructor <;> simp (maxDischargeDepth := 12) [go_sem]) hb1 (by simp)
  have B1 : Below w.heap.size w w1 := ((Below.refl _ w).alloc (Nat.le_refl _) _).trans (hb1.mono (by simp))
  have z1 : w.heap.size < w1.heap.size := by have := hb1.size; simp at this; omega
  clear hb1
  go_wp2_with fail
  refine (QU.out _).mono ?_
  rintro e w2 ⟨rfl, hb2⟩
  have R2 : Hid (BlkV w2 w.heap.size 0 0 0 ⟨#[]⟩) := R1.out.below hb2 z1
  have B2 : Below w.heap.size w w2 := B1.trans (hb2.mono B1.size)
  clear hb2 R1 B1 z1
  obtain ⟨r0, r1, r2, r3, r4, r5, r6, r7⟩ := R2.out
  go_wp2
  generalize hW9 : World.setCell _ _ _ = W9
  have b9 : BlkV W9 w.heap.size 0 0 0 ⟨#[]⟩ := by rw [← hW9]; exact R2.out.four
  have hB9 : Below w.heap.size w W9 := by rw [← hW9]; exact (((B2.setCell (by simp) _).setCell (by simp) _).setCell (by simp) _).setCell (by simp) _
  clear hW9
  obtain ⟨x0, x1, x2, x3, -, -, -, -⟩ := b9
  refine bodyPost_ret (by simp [results, Tryz.results17, go_sem, x0, x1, x2, x3]; try rfl) rfl ?_
  exact ⟨rfl, hB9⟩

set_option maxRecDepth 100000 in
set_option maxHeartbeats 4000000 in
theorem dp_str (s T Q : ByteArray) (c : UInt8) (w : World) (h0 : 0 < s.size) (hc : s[0] = c) (h34 : ((c.toNat : Int) == 34) = true)
    (UN : Hid (∀ W : World, Calls Tryz.prog 32 #[.string s] W fun e w' => e = .returned (.string T) ∧ Below W.heap.size W w'))
    (QU : Hid (∀ W : World, Calls Tryz.prog 29 #[.string T] W fun e w' => e = .returned (.string Q) ∧ Below W.heap.size W w')) (hq : Q = s) (hl : T.size ≤ 64) :
    Calls Tryz.prog 17 #[.string s] w fun e w' => e = .returned (.tuple #[.agg #[.int .i64 3, .int .i64 0, .int .i64 0, .string T], .int .i64 0]) ∧ Below w.heap.size w w' := by
  have h0' : (0 : Int) < s.size := by omega
  subst hq
  have hl2 : (T.size : Int) ≤ 64 := by omega
  go_enter Tryz.func17, Tryz.ntmps17
  go_wp2_with fail
  refine (UN.out _).mono ?_
  rintro e w1 ⟨rfl, hb1⟩
  have R1 : Hid (BlkV w1 w.heap.size 0 0 0 ⟨#[]⟩) := BlkV.below (by constructor <;> simp (maxDischargeDepth := 12) [go_sem]) hb1 (by simp)
  have B1 : Below w.heap.size w w1 := ((Below.refl _ w).alloc (Nat.le_refl _) _).trans (hb1.mono (by simp))
  have z1 : w.heap.size < w1.heap.size := by have := hb1.size; simp at this; omega
  clear hb1
  go_wp2_with fail
  refine (QU.out _).mono ?_
  rintro e w2 ⟨rfl, hb2⟩
  have R2 : Hid (BlkV w2 w.heap.size 0 0 0 ⟨#[]⟩) := R1.out.below hb2 z1
  have B2 : Below w.heap.size w w2 := B1.trans (hb2.mono B1.size)
  clear hb2 R1 B1 z1
  obtain ⟨r0, r1, r2, r3, r4, r5, r6, r7⟩ := R2.out
  go_wp2
  generalize hW9 : World.setCell _ _ _ = W9
  have b9 : BlkV W9 w.heap.size 3 0 0 T := by rw [← hW9]; exact R2.out.four
  have hB9 : Below w.heap.size w W9 := by rw [← hW9]; exact (((B2.setCell (by simp) _).setCell (by simp) _).setCell (by simp) _).setCell (by simp) _
  clear hW9
  obtain ⟨x0, x1, x2, x3, -, -, -, -⟩ := b9
  refine bodyPost_ret (by simp [results, Tryz.results17, go_sem, x0, x1, x2, x3]; try rfl) rfl ?_
  exact ⟨rfl, hB9⟩

set_option maxRecDepth 100000 in
set_option maxHeartbeats 8000000 in
theorem dp_int_err (s T A B : ByteArray) (n a b C : Int) (m : Nat) (w : World) (hs : s.size ≤ 140737488355328) (hp : s.size = 0 ∨ ∃ (h0 : 0 < s.size), s[0].toNat ≠ 34)
    (NS : Hid (∀ W : World, Calls Tryz.prog 33 #[.string s] W fun e w' => e = .returned (.int .i64 n) ∧ Below W.heap.size W w'))
    (hno : ∀ j (h : j < s.size), s[j].toNat ≠ 47)
    (PR : Hid (∀ W : World, Calls Tryz.prog 15 #[.agg #[.int .i64 1, .int .i64 n, .int .i64 0, .string ⟨#[]⟩]] W fun e w' => e = .returned (.tuple #[.string T, .int .i64 C]) ∧ Below W.heap.size W w')) (hC : (C != 0) = true) :
    Calls Tryz.prog 17 #[.string s] w fun e w' => e = .returned (.tuple #[.agg #[.int .i64 0, .int .i64 0, .int .i64 0, .string ⟨#[]⟩], .int .i64 70]) ∧ Below w.heap.size w w' := by
  have HN : Hid (∀ j (h : j < s.size), s[j].toNat ≠ 47) := hno
  clear hno
  have hp' : ((0 < (s.size : Int)) = False ∧ (0 < s.size) = False) ∨ (∃ (h0 : 0 < s.size) (c : UInt8), s[0] = c ∧ ((c.toNat : Int) == 34) = false ∧ (0 : Int) < s.size) := by
    rcases hp with hp | ⟨h0, hp⟩
    · left; exact ⟨eq_false (by omega), eq_false (by omega)⟩
    · right; exact ⟨h0, s[0], rfl, by simp; omega, by omega⟩
  clear hp
  rcases hp' with ⟨q0, q0n⟩ | ⟨h0, c0, hc0, q1, q0⟩
  all_goals
    go_enter Tryz.func17, Tryz.ntmps17
    go_wp2_with fail
    refine (NS.out _).mono ?_
    rintro e w1 ⟨rfl, hb1⟩
    have R1 : Hid (BlkV w1 w.heap.size 0 0 0 ⟨#[]⟩) := BlkV.below (by constructor <;> simp (maxDischargeDepth := 12) [go_sem]) hb1 (by first | (simp; done) | (simp; omega))
    have V1 : Hid (BlkV w1 (w.heap.size + 1) 1 0 0 ⟨#[]⟩) := BlkV.below (by constructor <;> simp (maxDischargeDepth := 12) [go_sem]) hb1 (by simp)
    have B1 : Below w.heap.size w w1 := (((Below.refl _ w).alloc (Nat.le_refl _) _).alloc (by simp) _).trans (hb1.mono (by simp; omega))
    have z1 : w.heap.size + 1 < w1.heap.size := by have := hb1.size; simp at this; omega
    clear hb1
    obtain ⟨v0, v1, v2, v3, v4, v5, v6, v7⟩ := V1.out
    go_upto_region 11 with fail
    refine wp_world ?_
    intro W2 hW2
    have R2 : Hid (BlkV W2 w.heap.size 0 0 0 ⟨#[]⟩) := by rw [hW2]; exact R1.out.off (by omega)
    have V2 : Hid (BlkV W2 (w.heap.size + 1) 1 n 0 ⟨#[]⟩) := by rw [hW2]; exact V1.out.set1
    have B2 : Below w.heap.size w W2 := by rw [hW2]; exact B1.setCell (by simp) _
    have z2 : w.heap.size + 1 < W2.heap.size := by rw [hW2]; simpa using z1
    clear hW2 R1 V1 B1 z1 v0 v1 v2 v3 v4 v5 v6 v7
    go_wp2
    go_loopw [7] (fun i wr => ∃ k : Nat, k ≤ s.size ∧ i = .int .i64 k ∧ wr = W2) (fun i _ => s.size - (intOf i).toNat)
    case atStart => exact ⟨0, by omega, rfl, rfl⟩
    case round =>
      obtain ⟨k, hk, rfl, rfl⟩ := hrel
      by_cases hke : k = s.size
      · subst hke
        obtain ⟨v0, v1, v2, v3, -, -, -, -⟩ := V2.out
        go_wp2_with fail
        refine (PR.out _).mono ?_
        rintro e w5 ⟨rfl, hb5⟩
        have R5 : Hid (BlkV w5 w.heap.size 0 0 0 ⟨#[]⟩) := R2.out.below hb5 (by omega)
        have V5 : Hid (BlkV w5 (w.heap.size + 1) 1 n 0 ⟨#[]⟩) := V2.out.below hb5 z2
        have B5 : Below w.heap.size w w5 := B2.trans (hb5.mono B2.size)
        clear hb5 v0 v1 v2 v3
        obtain ⟨v0, v1, v2, v3, -, -, -, -⟩ := V5.out
        obtain ⟨r0, r1, r2, r3, r4, r5, r6, r7⟩ := R5.out
        go_wp2
        generalize hW9 : World.setCell _ _ _ = W9
        have b9 : BlkV W9 w.heap.size 0 0 0 ⟨#[]⟩ := by rw [← hW9]; exact R5.out.four
        have hB9 : Below w.heap.size w W9 := by rw [← hW9]; exact (((B5.setCell (by simp) _).setCell (by simp) _).setCell (by simp) _).setCell (by simp) _
        clear hW9
        obtain ⟨x0, x1, x2, x3, -, -, -, -⟩ := b9
        refine bodyPost_ret (by simp [results, Tryz.results17, go_sem, x0, x1, x2, x3]; try rfl) rfl ?_
        exact ⟨rfl, hB9⟩
      · have hk' : (k : Int) < s.size := by omega
        have hkk : k < s.size := by omega
        have hne := HN.out k (by omega)
        obtain ⟨c, hc⟩ : ∃ c : UInt8, s[k] = c := ⟨_, rfl⟩
        rw [hc] at hne
        have q2 : ((c.toNat : Int) == 47) = false := by simp; omega
        clear hne
        go_wp2
        exact ⟨⟨k + 1, by omega, by simp, by first | rfl | trivial⟩, by simp [intOf]; omega⟩
    
set_option maxRecDepth 100000 in
set_option maxHeartbeats 8000000 in
theorem dp_int_not (s T A B : ByteArray) (n a b C : Int) (m : Nat) (w : World) (hs : s.size ≤ 140737488355328) (hp : s.size = 0 ∨ ∃ (h0 : 0 < s.size), s[0].toNat ≠ 34)
    (NS : Hid (∀ W : World, Calls Tryz.prog 33 #[.string s] W fun e w' => e = .returned (.int .i64 n) ∧ Below W.heap.size W w'))
    (hno : ∀ j (h : j < s.size), s[j].toNat ≠ 47)
    (PR : Hid (∀ W : World, Calls Tryz.prog 15 #[.agg #[.int .i64 1, .int .i64 n, .int .i64 0, .string ⟨#[]⟩]] W fun e w' => e = .returned (.tuple #[.string T, .int .i64 C]) ∧ Below W.heap.size W w')) (hC : C = 0) (hT : (T.toList == s.toList) = false) :
    Calls Tryz.prog 17 #[.string s] w fun e w' => e = .returned (.tuple #[.agg #[.int .i64 0, .int .i64 0, .int .i64 0, .string ⟨#[]⟩], .int .i64 70]) ∧ Below w.heap.size w w' := by
  subst hC
  have HN : Hid (∀ j (h : j < s.size), s[j].toNat ≠ 47) := hno
  clear hno
  have hp' : ((0 < (s.size : Int)) = False ∧ (0 < s.size) = False) ∨ (∃ (h0 : 0 < s.size) (c : UInt8), s[0] = c ∧ ((c.toNat : Int) == 34) = false ∧ (0 : Int) < s.size) := by
    rcases hp with hp | ⟨h0, hp⟩
    · left; exact ⟨eq_false (by omega), eq_false (by omega)⟩
    · right; exact ⟨h0, s[0], rfl, by simp; omega, by omega⟩
  clear hp
  rcases hp' with ⟨q0, q0n⟩ | ⟨h0, c0, hc0, q1, q0⟩
  all_goals
    go_enter Tryz.func17, Tryz.ntmps17
    go_wp2_with fail
    refine (NS.out _).mono ?_
    rintro e w1 ⟨rfl, hb1⟩
    have R1 : Hid (BlkV w1 w.heap.size 0 0 0 ⟨#[]⟩) := BlkV.below (by constructor <;> simp (maxDischargeDepth := 12) [go_sem]) hb1 (by first | (simp; done) | (simp; omega))
    have V1 : Hid (BlkV w1 (w.heap.size + 1) 1 0 0 ⟨#[]⟩) := BlkV.below (by constructor <;> simp (maxDischargeDepth := 12) [go_sem]) hb1 (by simp)
    have B1 : Below w.heap.size w w1 := (((Below.refl _ w).alloc (Nat.le_refl _) _).alloc (by simp) _).trans (hb1.mono (by simp; omega))
    have z1 : w.heap.size + 1 < w1.heap.size := by have := hb1.size; simp at this; omega
    clear hb1
    obtain ⟨v0, v1, v2, v3, v4, v5, v6, v7⟩ := V1.out
    go_upto_region 11 with fail
    refine wp_world ?_
    intro W2 hW2
    have R2 : Hid (BlkV W2 w.heap.size 0 0 0 ⟨#[]⟩) := by rw [hW2]; exact R1.out.off (by omega)
    have V2 : Hid (BlkV W2 (w.heap.size + 1) 1 n 0 ⟨#[]⟩) := by rw [hW2]; exact V1.out.set1
    have B2 : Below w.heap.size w W2 := by rw [hW2]; exact B1.setCell (by simp) _
    have z2 : w.heap.size + 1 < W2.heap.size := by rw [hW2]; simpa using z1
    clear hW2 R1 V1 B1 z1 v0 v1 v2 v3 v4 v5 v6 v7
    go_wp2
    go_loopw [7] (fun i wr => ∃ k : Nat, k ≤ s.size ∧ i = .int .i64 k ∧ wr = W2) (fun i _ => s.size - (intOf i).toNat)
    case atStart => exact ⟨0, by omega, rfl, rfl⟩
    case round =>
      obtain ⟨k, hk, rfl, rfl⟩ := hrel
      by_cases hke : k = s.size
      · subst hke
        obtain ⟨v0, v1, v2, v3, -, -, -, -⟩ := V2.out
        go_wp2_with fail
        refine (PR.out _).mono ?_
        rintro e w5 ⟨rfl, hb5⟩
        have R5 : Hid (BlkV w5 w.heap.size 0 0 0 ⟨#[]⟩) := R2.out.below hb5 (by omega)
        have V5 : Hid (BlkV w5 (w.heap.size + 1) 1 n 0 ⟨#[]⟩) := V2.out.below hb5 z2
        have B5 : Below w.heap.size w w5 := B2.trans (hb5.mono B2.size)
        clear hb5 v0 v1 v2 v3
        obtain ⟨v0, v1, v2, v3, -, -, -, -⟩ := V5.out
        obtain ⟨r0, r1, r2, r3, r4, r5, r6, r7⟩ := R5.out
        go_wp2
        generalize hW9 : World.setCell _ _ _ = W9
        have b9 : BlkV W9 w.heap.size 0 0 0 ⟨#[]⟩ := by rw [← hW9]; exact R5.out.four
        have hB9 : Below w.heap.size w W9 := by rw [← hW9]; exact (((B5.setCell (by simp) _).setCell (by simp) _).setCell (by simp) _).setCell (by simp) _
        clear hW9
        obtain ⟨x0, x1, x2, x3, -, -, -, -⟩ := b9
        refine bodyPost_ret (by simp [results, Tryz.results17, go_sem, x0, x1, x2, x3]; try rfl) rfl ?_
        exact ⟨rfl, hB9⟩
      · have hk' : (k : Int) < s.size := by omega
        have hkk : k < s.size := by omega
        have hne := HN.out k (by omega)
        obtain ⟨c, hc⟩ : ∃ c : UInt8, s[k] = c := ⟨_, rfl⟩
        rw [hc] at hne
        have q2 : ((c.toNat : Int) == 47) = false := by simp; omega
        clear hne
        go_wp2
        exact ⟨⟨k + 1, by omega, by simp, by first | rfl | trivial⟩, by simp [intOf]; omega⟩
    
set_option maxRecDepth 100000 in
set_option maxHeartbeats 8000000 in
theorem dp_int_yes (s T A B : ByteArray) (n a b C : Int) (m : Nat) (w : World) (hs : s.size ≤ 140737488355328) (hp : s.size = 0 ∨ ∃ (h0 : 0 < s.size), s[0].toNat ≠ 34)
    (NS : Hid (∀ W : World, Calls Tryz.prog 33 #[.string s] W fun e w' => e = .returned (.int .i64 n) ∧ Below W.heap.size W w'))
    (hno : ∀ j (h : j < s.size), s[j].toNat ≠ 47)
    (PR : Hid (∀ W : World, Calls Tryz.prog 15 #[.agg #[.int .i64 1, .int .i64 n, .int .i64 0, .string ⟨#[]⟩]] W fun e w' => e = .returned (.tuple #[.string T, .int .i64 C]) ∧ Below W.heap.size W w')) (hC : C = 0) (hT : s = T) :
    Calls Tryz.prog 17 #[.string s] w fun e w' => e = .returned (.tuple #[.agg #[.int .i64 1, .int .i64 n, .int .i64 0, .string ⟨#[]⟩], .int .i64 0]) ∧ Below w.heap.size w w' := by
  subst hC
  subst hT
  have HN : Hid (∀ j (h : j < s.size), s[j].toNat ≠ 47) := hno
  clear hno
  have hp' : ((0 < (s.size : Int)) = False ∧ (0 < s.size) = False) ∨ (∃ (h0 : 0 < s.size) (c : UInt8), s[0] = c ∧ ((c.toNat : Int) == 34) = false ∧ (0 : Int) < s.size) := by
    rcases hp with hp | ⟨h0, hp⟩
    · left; exact ⟨eq_false (by omega), eq_false (by omega)⟩
    · right; exact ⟨h0, s[0], rfl, by simp; omega, by omega⟩
  clear hp
  rcases hp' with ⟨q0, q0n⟩ | ⟨h0, c0, hc0, q1, q0⟩
  all_goals
    go_enter Tryz.func17, Tryz.ntmps17
    go_wp2_with fail
    refine (NS.out _).mono ?_
    rintro e w1 ⟨rfl, hb1⟩
    have R1 : Hid (BlkV w1 w.heap.size 0 0 0 ⟨#[]⟩) := BlkV.below (by constructor <;> simp (maxDischargeDepth := 12) [go_sem]) hb1 (by first | (simp; done) | (simp; omega))
    have V1 : Hid (BlkV w1 (w.heap.size + 1) 1 0 0 ⟨#[]⟩) := BlkV.below (by constructor <;> simp (maxDischargeDepth := 12) [go_sem]) hb1 (by simp)
    have B1 : Below w.heap.size w w1 := (((Below.refl _ w).alloc (Nat.le_refl _) _).alloc (by simp) _).trans (hb1.mono (by simp; omega))
    have z1 : w.heap.size + 1 < w1.heap.size := by have := hb1.size; simp at this; omega
    clear hb1
    obtain ⟨v0, v1, v2, v3, v4, v5, v6, v7⟩ := V1.out
    go_upto_region 11 with fail
    refine wp_world ?_
    intro W2 hW2
    have R2 : Hid (BlkV W2 w.heap.size 0 0 0 ⟨#[]⟩) := by rw [hW2]; exact R1.out.off (by omega)
    have V2 : Hid (BlkV W2 (w.heap.size + 1) 1 n 0 ⟨#[]⟩) := by rw [hW2]; exact V1.out.set1
    have B2 : Below w.heap.size w W2 := by rw [hW2]; exact B1.setCell (by simp) _
    have z2 : w.heap.size + 1 < W2.heap.size := by rw [hW2]; simpa using z1
    clear hW2 R1 V1 B1 z1 v0 v1 v2 v3 v4 v5 v6 v7
    go_wp2
    go_loopw [7] (fun i wr => ∃ k : Nat, k ≤ s.size ∧ i = .int .i64 k ∧ wr = W2) (fun i _ => s.size - (intOf i).toNat)
    case atStart => exact ⟨0, by omega, rfl, rfl⟩
    case round =>
      obtain ⟨k, hk, rfl, rfl⟩ := hrel
      by_cases hke : k = s.size
      · subst hke
        obtain ⟨v0, v1, v2, v3, -, -, -, -⟩ := V2.out
        go_wp2_with fail
        refine (PR.out _).mono ?_
        rintro e w5 ⟨rfl, hb5⟩
        have R5 : Hid (BlkV w5 w.heap.size 0 0 0 ⟨#[]⟩) := R2.out.below hb5 (by omega)
        have V5 : Hid (BlkV w5 (w.heap.size + 1) 1 n 0 ⟨#[]⟩) := V2.out.below hb5 z2
        have B5 : Below w.heap.size w w5 := B2.trans (hb5.mono B2.size)
        clear hb5 v0 v1 v2 v3
        obtain ⟨v0, v1, v2, v3, -, -, -, -⟩ := V5.out
        obtain ⟨r0, r1, r2, r3, r4, r5, r6, r7⟩ := R5.out
        go_wp2
        generalize hW9 : World.setCell _ _ _ = W9
        have b9 : BlkV W9 w.heap.size 1 n 0 ⟨#[]⟩ := by rw [← hW9]; exact R5.out.four
        have hB9 : Below w.heap.size w W9 := by rw [← hW9]; exact (((B5.setCell (by simp) _).setCell (by simp) _).setCell (by simp) _).setCell (by simp) _
        clear hW9
        obtain ⟨x0, x1, x2, x3, -, -, -, -⟩ := b9
        refine bodyPost_ret (by simp [results, Tryz.results17, go_sem, x0, x1, x2, x3]; try rfl) rfl ?_
        exact ⟨rfl, hB9⟩
      · have hk' : (k : Int) < s.size := by omega
        have hkk : k < s.size := by omega
        have hne := HN.out k (by omega)
        obtain ⟨c, hc⟩ : ∃ c : UInt8, s[k] = c := ⟨_, rfl⟩
        rw [hc] at hne
        have q2 : ((c.toNat : Int) == 47) = false := by simp; omega
        clear hne
        go_wp2
        exact ⟨⟨k + 1, by omega, by simp, by first | rfl | trivial⟩, by simp [intOf]; omega⟩
    
set_option maxRecDepth 100000 in
set_option maxHeartbeats 8000000 in
theorem dp_rat_err (s T A B : ByteArray) (n a b C : Int) (m : Nat) (w : World) (hs : s.size ≤ 140737488355328) (hp : s.size = 0 ∨ ∃ (h0 : 0 < s.size), s[0].toNat ≠ 34)
    (NS : Hid (∀ W : World, Calls Tryz.prog 33 #[.string s] W fun e w' => e = .returned (.int .i64 n) ∧ Below W.heap.size W w'))
    (NA : Hid (∀ W : World, Calls Tryz.prog 33 #[.string A] W fun e w' => e = .returned (.int .i64 a) ∧ Below W.heap.size W w'))
    (NB : Hid (∀ W : World, Calls Tryz.prog 33 #[.string B] W fun e w' => e = .returned (.int .i64 b) ∧ Below W.heap.size W w'))
    (xA : s.extract 0 m = A) (xB : s.extract (m + 1) s.size = B) (hm : m < s.size) (hfm : s[m].toNat = 47) (hno : ∀ j (h : j < m), s[j].toNat ≠ 47)
    (PR : Hid (∀ W : World, Calls Tryz.prog 15 #[.agg #[.int .i64 2, .int .i64 a, .int .i64 b, .string ⟨#[]⟩]] W fun e w' => e = .returned (.tuple #[.string T, .int .i64 C]) ∧ Below W.heap.size W w')) (hC : (C != 0) = true) :
    Calls Tryz.prog 17 #[.string s] w fun e w' => e = .returned (.tuple #[.agg #[.int .i64 0, .int .i64 0, .int .i64 0, .string ⟨#[]⟩], .int .i64 70]) ∧ Below w.heap.size w w' := by
  have HN : Hid (∀ j (h : j < m), s[j].toNat ≠ 47) := hno
  clear hno
  have h0 : 0 < s.size := by omega
  have q0 : (0 : Int) < s.size := by omega
  obtain ⟨c0, hc0⟩ : ∃ c : UInt8, s[0] = c := ⟨_, rfl⟩
  have q1 : ((c0.toNat : Int) == 34) = false := by
    rcases hp with hp | ⟨_, hp⟩
    · omega
    · rw [hc0] at hp; simp; omega
  clear hp
  go_enter Tryz.func17, Tryz.ntmps17
  go_wp2_with fail
  refine (NS.out _).mono ?_
  rintro e w1 ⟨rfl, hb1⟩
  have R1 : Hid (BlkV w1 w.heap.size 0 0 0 ⟨#[]⟩) := BlkV.below (by constructor <;> simp (maxDischargeDepth := 12) [go_sem]) hb1 (by first | (simp; done) | (simp; omega))
  have V1 : Hid (BlkV w1 (w.heap.size + 1) 1 0 0 ⟨#[]⟩) := BlkV.below (by constructor <;> simp (maxDischargeDepth := 12) [go_sem]) hb1 (by simp)
  have B1 : Below w.heap.size w w1 := (((Below.refl _ w).alloc (Nat.le_refl _) _).alloc (by simp) _).trans (hb1.mono (by simp; omega))
  have z1 : w.heap.size + 1 < w1.heap.size := by have := hb1.size; simp at this; omega
  clear hb1
  obtain ⟨v0, v1, v2, v3, v4, v5, v6, v7⟩ := V1.out
  go_upto_region 11 with fail
  refine wp_world ?_
  intro W2 hW2
  have R2 : Hid (BlkV W2 w.heap.size 0 0 0 ⟨#[]⟩) := by rw [hW2]; exact R1.out.off (by omega)
  have V2 : Hid (BlkV W2 (w.heap.size + 1) 1 n 0 ⟨#[]⟩) := by rw [hW2]; exact V1.out.set1
  have B2 : Below w.heap.size w W2 := by rw [hW2]; exact B1.setCell (by simp) _
  have z2 : w.heap.size + 1 < W2.heap.size := by rw [hW2]; simpa using z1
  clear hW2 R1 V1 B1 z1 v0 v1 v2 v3 v4 v5 v6 v7
  go_wp2
  go_loopw [7] (fun i wr => ∃ k : Nat, k ≤ m ∧ i = .int .i64 k ∧ wr = W2) (fun i _ => m - (intOf i).toNat)
  case atStart => exact ⟨0, by omega, rfl, rfl⟩
  case round =>
    obtain ⟨k, hk, rfl, rfl⟩ := hrel
    by_cases hke : k = m
    · subst hke
      have hk' : (k : Int) < s.size := by omega
      have hk1 : (k : Int) + 1 ≤ s.size := by omega
      have hk2 : (k : Int) ≤ s.size := by omega
      obtain ⟨c, hc⟩ : ∃ c : UInt8, s[k] = c := ⟨_, rfl⟩
      rw [hc] at hfm
      have q2 : ((c.toNat : Int) == 47) = true := by simp; omega
      clear hfm
      obtain ⟨v0, v1, v2, v3, v4, v5, v6, v7⟩ := V2.out
      go_upto_region 16 with fail
      refine wp_world ?_
      intro W3 hW3
      have R3 : Hid (BlkV W3 w.heap.size 0 0 0 ⟨#[]⟩) := by rw [hW3]; exact R2.out.off (by omega)
      have V3 : Hid (BlkV W3 (w.heap.size + 1) 2 n 0 ⟨#[]⟩) := by rw [hW3]; exact V2.out.set0
      have B3 : Below w.heap.size w W3 := by rw [hW3]; exact B2.setCell (by simp) _
      have z3 : w.heap.size + 1 < W3.heap.size := by rw [hW3]; simpa using z2
      clear hW3 R2 V2 B2 z2 v0 v1 v2 v3 v4 v5 v6 v7
      go_wp2_with fail
      refine (NA.out _).mono ?_
      rintro e w4 ⟨rfl, hb4⟩
      have R4 : Hid (BlkV w4 w.heap.size 0 0 0 ⟨#[]⟩) := R3.out.below hb4 (by omega)
      have V4 : Hid (BlkV w4 (w.heap.size + 1) 2 n 0 ⟨#[]⟩) := V3.out.below hb4 z3
      have B4 : Below w.heap.size w w4 := B3.trans (hb4.mono B3.size)
      have z4 : w.heap.size + 1 < w4.heap.size := by have := hb4.size; omega
      clear hb4 R3 V3 B3 z3
      obtain ⟨v0, v1, v2, v3, v4, v5, v6, v7⟩ := V4.out
      go_upto_region 17 with fail
      refine wp_world ?_
      intro W5 hW5
      have R5 : Hid (BlkV W5 w.heap.size 0 0 0 ⟨#[]⟩) := by rw [hW5]; exact R4.out.off (by omega)
      have V5 : Hid (BlkV W5 (w.heap.size + 1) 2 a 0 ⟨#[]⟩) := by rw [hW5]; exact V4.out.set1
      have B5 : Below w.heap.size w W5 := by rw [hW5]; exact B4.setCell (by simp) _
      have z5 : w.heap.size + 1 < W5.heap.size := by rw [hW5]; simpa using z4
      clear hW5 R4 V4 B4 z4 v0 v1 v2 v3 v4 v5 v6 v7
      go_wp2_with fail
      refine (NB.out _).mono ?_
      rintro e w6 ⟨rfl, hb6⟩
      have R6 : Hid (BlkV w6 w.heap.size 0 0 0 ⟨#[]⟩) := R5.out.below hb6 (by omega)
      have V6 : Hid (BlkV w6 (w.heap.size + 1) 2 a 0 ⟨#[]⟩) := V5.out.below hb6 z5
      have B6 : Below w.heap.size w w6 := B5.trans (hb6.mono B5.size)
      have z6 : w.heap.size + 1 < w6.heap.size := by have := hb6.size; omega
      clear hb6 R5 V5 B5 z5
      obtain ⟨v0, v1, v2, v3, v4, v5, v6, v7⟩ := V6.out
      go_upto_region 18 with fail
      refine wp_world ?_
      intro W7 hW7
      have R7 : Hid (BlkV W7 w.heap.size 0 0 0 ⟨#[]⟩) := by rw [hW7]; exact R6.out.off (by omega)
      have V7 : Hid (BlkV W7 (w.heap.size + 1) 2 a b ⟨#[]⟩) := by rw [hW7]; exact V6.out.set2
      have B7 : Below w.heap.size w W7 := by rw [hW7]; exact B6.setCell (by simp) _
      have z7 : w.heap.size + 1 < W7.heap.size := by rw [hW7]; simpa using z6
      clear hW7 R6 V6 B6 z6 v0 v1 v2 v3 v4 v5 v6 v7
      obtain ⟨v0, v1, v2, v3, -, -, -, -⟩ := V7.out
      go_wp2_with fail
      refine (PR.out _).mono ?_
      rintro e w5 ⟨rfl, hb5⟩
      have R5 : Hid (BlkV w5 w.heap.size 0 0 0 ⟨#[]⟩) := R7.out.below hb5 (by omega)
      have V5 : Hid (BlkV w5 (w.heap.size + 1) 2 a b ⟨#[]⟩) := V7.out.below hb5 z7
      have B5 : Below w.heap.size w w5 := B7.trans (hb5.mono B7.size)
      clear hb5 v0 v1 v2 v3
      obtain ⟨v0, v1, v2, v3, -, -, -, -⟩ := V5.out
      obtain ⟨r0, r1, r2, r3, r4, r5, r6, r7⟩ := R5.out
      go_wp2
      generalize hW9 : World.setCell _ _ _ = W9
      have b9 : BlkV W9 w.heap.size 0 0 0 ⟨#[]⟩ := by rw [← hW9]; exact R5.out.four
      have hB9 : Below w.heap.size w W9 := by rw [← hW9]; exact (((B5.setCell (by simp) _).setCell (by simp) _).setCell (by simp) _).setCell (by simp) _
      clear hW9
      obtain ⟨x0, x1, x2, x3, -, -, -, -⟩ := b9
      refine bodyPost_ret (by simp [results, Tryz.results17, go_sem, x0, x1, x2, x3]; try rfl) rfl ?_
      exact ⟨rfl, hB9⟩
    · have hk' : (k : Int) < s.size := by omega
      have hkk : k < s.size := by omega
      have hne := HN.out k (by omega)
      obtain ⟨c, hc⟩ : ∃ c : UInt8, s[k] = c := ⟨_, rfl⟩
      rw [hc] at hne
      have q2 : ((c.toNat : Int) == 47) = false := by simp; omega
      clear hne
      go_wp2
      exact ⟨⟨k + 1, by omega, by simp, by first | rfl | trivial⟩, by simp [intOf]; omega⟩
  
set_option maxRecDepth 100000 in
set_option maxHeartbeats 8000000 in
theorem dp_rat_not (s T A B : ByteArray) (n a b C : Int) (m : Nat) (w : World) (hs : s.size ≤ 140737488355328) (hp : s.size = 0 ∨ ∃ (h0 : 0 < s.size), s[0].toNat ≠ 34)
    (NS : Hid (∀ W : World, Calls Tryz.prog 33 #[.string s] W fun e w' => e = .returned (.int .i64 n) ∧ Below W.heap.size W w'))
    (NA : Hid (∀ W : World, Calls Tryz.prog 33 #[.string A] W fun e w' => e = .returned (.int .i64 a) ∧ Below W.heap.size W w'))
    (NB : Hid (∀ W : World, Calls Tryz.prog 33 #[.string B] W fun e w' => e = .returned (.int .i64 b) ∧ Below W.heap.size W w'))
    (xA : s.extract 0 m = A) (xB : s.extract (m + 1) s.size = B) (hm : m < s.size) (hfm : s[m].toNat = 47) (hno : ∀ j (h : j < m), s[j].toNat ≠ 47)
    (PR : Hid (∀ W : World, Calls Tryz.prog 15 #[.agg #[.int .i64 2, .int .i64 a, .int .i64 b, .string ⟨#[]⟩]] W fun e w' => e = .returned (.tuple #[.string T, .int .i64 C]) ∧ Below W.heap.size W w')) (hC : C = 0) (hT : (T.toList == s.toList) = false) :
    Calls Tryz.prog 17 #[.string s] w fun e w' => e = .returned (.tuple #[.agg #[.int .i64 0, .int .i64 0, .int .i64 0, .string ⟨#[]⟩], .int .i64 70]) ∧ Below w.heap.size w w' := by
  subst hC
  have HN : Hid (∀ j (h : j < m), s[j].toNat ≠ 47) := hno
  clear hno
  have h0 : 0 < s.size := by omega
  have q0 : (0 : Int) < s.size := by omega
  obtain ⟨c0, hc0⟩ : ∃ c : UInt8, s[0] = c := ⟨_, rfl⟩
  have q1 : ((c0.toNat : Int) == 34) = false := by
    rcases hp with hp | ⟨_, hp⟩
    · omega
    · rw [hc0] at hp; simp; omega
  clear hp
  go_enter Tryz.func17, Tryz.ntmps17
  go_wp2_with fail
  refine (NS.out _).mono ?_
  rintro e w1 ⟨rfl, hb1⟩
  have R1 : Hid (BlkV w1 w.heap.size 0 0 0 ⟨#[]⟩) := BlkV.below (by constructor <;> simp (maxDischargeDepth := 12) [go_sem]) hb1 (by first | (simp; done) | (simp; omega))
  have V1 : Hid (BlkV w1 (w.heap.size + 1) 1 0 0 ⟨#[]⟩) := BlkV.below (by constructor <;> simp (maxDischargeDepth := 12) [go_sem]) hb1 (by simp)
  have B1 : Below w.heap.size w w1 := (((Below.refl _ w).alloc (Nat.le_refl _) _).alloc (by simp) _).trans (hb1.mono (by simp; omega))
  have z1 : w.heap.size + 1 < w1.heap.size := by have := hb1.size; simp at this; omega
  clear hb1
  obtain ⟨v0, v1, v2, v3, v4, v5, v6, v7⟩ := V1.out
  go_upto_region 11 with fail
  refine wp_world ?_
  intro W2 hW2
  have R2 : Hid (BlkV W2 w.heap.size 0 0 0 ⟨#[]⟩) := by rw [hW2]; exact R1.out.off (by omega)
  have V2 : Hid (BlkV W2 (w.heap.size + 1) 1 n 0 ⟨#[]⟩) := by rw [hW2]; exact V1.out.set1
  have B2 : Below w.heap.size w W2 := by rw [hW2]; exact B1.setCell (by simp) _
  have z2 : w.heap.size + 1 < W2.heap.size := by rw [hW2]; simpa using z1
  clear hW2 R1 V1 B1 z1 v0 v1 v2 v3 v4 v5 v6 v7
  go_wp2
  go_loopw [7] (fun i wr => ∃ k : Nat, k ≤ m ∧ i = .int .i64 k ∧ wr = W2) (fun i _ => m - (intOf i).toNat)
  case atStart => exact ⟨0, by omega, rfl, rfl⟩
  case round =>
    obtain ⟨k, hk, rfl, rfl⟩ := hrel
    by_cases hke : k = m
    · subst hke
      have hk' : (k : Int) < s.size := by omega
      have hk1 : (k : Int) + 1 ≤ s.size := by omega
      have hk2 : (k : Int) ≤ s.size := by omega
      obtain ⟨c, hc⟩ : ∃ c : UInt8, s[k] = c := ⟨_, rfl⟩
      rw [hc] at hfm
      have q2 : ((c.toNat : Int) == 47) = true := by simp; omega
      clear hfm
      obtain ⟨v0, v1, v2, v3, v4, v5, v6, v7⟩ := V2.out
      go_upto_region 16 with fail
      refine wp_world ?_
      intro W3 hW3
      have R3 : Hid (BlkV W3 w.heap.size 0 0 0 ⟨#[]⟩) := by rw [hW3]; exact R2.out.off (by omega)
      have V3 : Hid (BlkV W3 (w.heap.size + 1) 2 n 0 ⟨#[]⟩) := by rw [hW3]; exact V2.out.set0
      have B3 : Below w.heap.size w W3 := by rw [hW3]; exact B2.setCell (by simp) _
      have z3 : w.heap.size + 1 < W3.heap.size := by rw [hW3]; simpa using z2
      clear hW3 R2 V2 B2 z2 v0 v1 v2 v3 v4 v5 v6 v7
      go_wp2_with fail
      refine (NA.out _).mono ?_
      rintro e w4 ⟨rfl, hb4⟩
      have R4 : Hid (BlkV w4 w.heap.size 0 0 0 ⟨#[]⟩) := R3.out.below hb4 (by omega)
      have V4 : Hid (BlkV w4 (w.heap.size + 1) 2 n 0 ⟨#[]⟩) := V3.out.below hb4 z3
      have B4 : Below w.heap.size w w4 := B3.trans (hb4.mono B3.size)
      have z4 : w.heap.size + 1 < w4.heap.size := by have := hb4.size; omega
      clear hb4 R3 V3 B3 z3
      obtain ⟨v0, v1, v2, v3, v4, v5, v6, v7⟩ := V4.out
      go_upto_region 17 with fail
      refine wp_world ?_
      intro W5 hW5
      have R5 : Hid (BlkV W5 w.heap.size 0 0 0 ⟨#[]⟩) := by rw [hW5]; exact R4.out.off (by omega)
      have V5 : Hid (BlkV W5 (w.heap.size + 1) 2 a 0 ⟨#[]⟩) := by rw [hW5]; exact V4.out.set1
      have B5 : Below w.heap.size w W5 := by rw [hW5]; exact B4.setCell (by simp) _
      have z5 : w.heap.size + 1 < W5.heap.size := by rw [hW5]; simpa using z4
      clear hW5 R4 V4 B4 z4 v0 v1 v2 v3 v4 v5 v6 v7
      go_wp2_with fail
      refine (NB.out _).mono ?_
      rintro e w6 ⟨rfl, hb6⟩
      have R6 : Hid (BlkV w6 w.heap.size 0 0 0 ⟨#[]⟩) := R5.out.below hb6 (by omega)
      have V6 : Hid (BlkV w6 (w.heap.size + 1) 2 a 0 ⟨#[]⟩) := V5.out.below hb6 z5
      have B6 : Below w.heap.size w w6 := B5.trans (hb6.mono B5.size)
      have z6 : w.heap.size + 1 < w6.heap.size := by have := hb6.size; omega
      clear hb6 R5 V5 B5 z5
      obtain ⟨v0, v1, v2, v3, v4, v5, v6, v7⟩ := V6.out
      go_upto_region 18 with fail
      refine wp_world ?_
      intro W7 hW7
      have R7 : Hid (BlkV W7 w.heap.size 0 0 0 ⟨#[]⟩) := by rw [hW7]; exact R6.out.off (by omega)
      have V7 : Hid (BlkV W7 (w.heap.size + 1) 2 a b ⟨#[]⟩) := by rw [hW7]; exact V6.out.set2
      have B7 : Below w.heap.size w W7 := by rw [hW7]; exact B6.setCell (by simp) _
      have z7 : w.heap.size + 1 < W7.heap.size := by rw [hW7]; simpa using z6
      clear hW7 R6 V6 B6 z6 v0 v1 v2 v3 v4 v5 v6 v7
      obtain ⟨v0, v1, v2, v3, -, -, -, -⟩ := V7.out
      go_wp2_with fail
      refine (PR.out _).mono ?_
      rintro e w5 ⟨rfl, hb5⟩
      have R5 : Hid (BlkV w5 w.heap.size 0 0 0 ⟨#[]⟩) := R7.out.below hb5 (by omega)
      have V5 : Hid (BlkV w5 (w.heap.size + 1) 2 a b ⟨#[]⟩) := V7.out.below hb5 z7
      have B5 : Below w.heap.size w w5 := B7.trans (hb5.mono B7.size)
      clear hb5 v0 v1 v2 v3
      obtain ⟨v0, v1, v2, v3, -, -, -, -⟩ := V5.out
      obtain ⟨r0, r1, r2, r3, r4, r5, r6, r7⟩ := R5.out
      go_wp2
      generalize hW9 : World.setCell _ _ _ = W9
      have b9 : BlkV W9 w.heap.size 0 0 0 ⟨#[]⟩ := by rw [← hW9]; exact R5.out.four
      have hB9 : Below w.heap.size w W9 := by rw [← hW9]; exact (((B5.setCell (by simp) _).setCell (by simp) _).setCell (by simp) _).setCell (by simp) _
      clear hW9
      obtain ⟨x0, x1, x2, x3, -, -, -, -⟩ := b9
      refine bodyPost_ret (by simp [results, Tryz.results17, go_sem, x0, x1, x2, x3]; try rfl) rfl ?_
      exact ⟨rfl, hB9⟩
    · have hk' : (k : Int) < s.size := by omega
      have hkk : k < s.size := by omega
      have hne := HN.out k (by omega)
      obtain ⟨c, hc⟩ : ∃ c : UInt8, s[k] = c := ⟨_, rfl⟩
      rw [hc] at hne
      have q2 : ((c.toNat : Int) == 47) = false := by simp; omega
      clear hne
      go_wp2
      exact ⟨⟨k + 1, by omega, by simp, by first | rfl | trivial⟩, by simp [intOf]; omega⟩
  
set_option maxRecDepth 100000 in
set_option maxHeartbeats 8000000 in
theorem dp_rat_yes (s T A B : ByteArray) (n a b C : Int) (m : Nat) (w : World) (hs : s.size ≤ 140737488355328) (hp : s.size = 0 ∨ ∃ (h0 : 0 < s.size), s[0].toNat ≠ 34)
    (NS : Hid (∀ W : World, Calls Tryz.prog 33 #[.string s] W fun e w' => e = .returned (.int .i64 n) ∧ Below W.heap.size W w'))
    (NA : Hid (∀ W : World, Calls Tryz.prog 33 #[.string A] W fun e w' => e = .returned (.int .i64 a) ∧ Below W.heap.size W w'))
    (NB : Hid (∀ W : World, Calls Tryz.prog 33 #[.string B] W fun e w' => e = .returned (.int .i64 b) ∧ Below W.heap.size W w'))
    (xA : s.extract 0 m = A) (xB : s.extract (m + 1) s.size = B) (hm : m < s.size) (hfm : s[m].toNat = 47) (hno : ∀ j (h : j < m), s[j].toNat ≠ 47)
    (PR : Hid (∀ W : World, Calls Tryz.prog 15 #[.agg #[.int .i64 2, .int .i64 a, .int .i64 b, .string ⟨#[]⟩]] W fun e w' => e = .returned (.tuple #[.string T, .int .i64 C]) ∧ Below W.heap.size W w')) (hC : C = 0) (hT : s = T) :
    Calls Tryz.prog 17 #[.string s] w fun e w' => e = .returned (.tuple #[.agg #[.int .i64 2, .int .i64 a, .int .i64 b, .string ⟨#[]⟩], .int .i64 0]) ∧ Below w.heap.size w w' := by
  subst hC
  subst hT
  have HN : Hid (∀ j (h : j < m), s[j].toNat ≠ 47) := hno
  clear hno
  have h0 : 0 < s.size := by omega
  have q0 : (0 : Int) < s.size := by omega
  obtain ⟨c0, hc0⟩ : ∃ c : UInt8, s[0] = c := ⟨_, rfl⟩
  have q1 : ((c0.toNat : Int) == 34) = false := by
    rcases hp with hp | ⟨_, hp⟩
    · omega
    · rw [hc0] at hp; simp; omega
  clear hp
  go_enter Tryz.func17, Tryz.ntmps17
  go_wp2_with fail
  refine (NS.out _).mono ?_
  rintro e w1 ⟨rfl, hb1⟩
  have R1 : Hid (BlkV w1 w.heap.size 0 0 0 ⟨#[]⟩) := BlkV.below (by constructor <;> simp (maxDischargeDepth := 12) [go_sem]) hb1 (by first | (simp; done) | (simp; omega))
  have V1 : Hid (BlkV w1 (w.heap.size + 1) 1 0 0 ⟨#[]⟩) := BlkV.below (by constructor <;> simp (maxDischargeDepth := 12) [go_sem]) hb1 (by simp)
  have B1 : Below w.heap.size w w1 := (((Below.refl _ w).alloc (Nat.le_refl _) _).alloc (by simp) _).trans (hb1.mono (by simp; omega))
  have z1 : w.heap.size + 1 < w1.heap.size := by have := hb1.size; simp at this; omega
  clear hb1
  obtain ⟨v0, v1, v2, v3, v4, v5, v6, v7⟩ := V1.out
  go_upto_region 11 with fail
  refine wp_world ?_
  intro W2 hW2
  have R2 : Hid (BlkV W2 w.heap.size 0 0 0 ⟨#[]⟩) := by rw [hW2]; exact R1.out.off (by omega)
  have V2 : Hid (BlkV W2 (w.heap.size + 1) 1 n 0 ⟨#[]⟩) := by rw [hW2]; exact V1.out.set1
  have B2 : Below w.heap.size w W2 := by rw [hW2]; exact B1.setCell (by simp) _
  have z2 : w.heap.size + 1 < W2.heap.size := by rw [hW2]; simpa using z1
  clear hW2 R1 V1 B1 z1 v0 v1 v2 v3 v4 v5 v6 v7
  go_wp2
  go_loopw [7] (fun i wr => ∃ k : Nat, k ≤ m ∧ i = .int .i64 k ∧ wr = W2) (fun i _ => m - (intOf i).toNat)
  case atStart => exact ⟨0, by omega, rfl, rfl⟩
  case round =>
    obtain ⟨k, hk, rfl, rfl⟩ := hrel
    by_cases hke : k = m
    · subst hke
      have hk' : (k : Int) < s.size := by omega
      have hk1 : (k : Int) + 1 ≤ s.size := by omega
      have hk2 : (k : Int) ≤ s.size := by omega
      obtain ⟨c, hc⟩ : ∃ c : UInt8, s[k] = c := ⟨_, rfl⟩
      rw [hc] at hfm
      have q2 : ((c.toNat : Int) == 47) = true := by simp; omega
      clear hfm
      obtain ⟨v0, v1, v2, v3, v4, v5, v6, v7⟩ := V2.out
      go_upto_region 16 with fail
      refine wp_world ?_
      intro W3 hW3
      have R3 : Hid (BlkV W3 w.heap.size 0 0 0 ⟨#[]⟩) := by rw [hW3]; exact R2.out.off (by omega)
      have V3 : Hid (BlkV W3 (w.heap.size + 1) 2 n 0 ⟨#[]⟩) := by rw [hW3]; exact V2.out.set0
      have B3 : Below w.heap.size w W3 := by rw [hW3]; exact B2.setCell (by simp) _
      have z3 : w.heap.size + 1 < W3.heap.size := by rw [hW3]; simpa using z2
      clear hW3 R2 V2 B2 z2 v0 v1 v2 v3 v4 v5 v6 v7
      go_wp2_with fail
      refine (NA.out _).mono ?_
      rintro e w4 ⟨rfl, hb4⟩
      have R4 : Hid (BlkV w4 w.heap.size 0 0 0 ⟨#[]⟩) := R3.out.below hb4 (by omega)
      have V4 : Hid (BlkV w4 (w.heap.size + 1) 2 n 0 ⟨#[]⟩) := V3.out.below hb4 z3
      have B4 : Below w.heap.size w w4 := B3.trans (hb4.mono B3.size)
      have z4 : w.heap.size + 1 < w4.heap.size := by have := hb4.size; omega
      clear hb4 R3 V3 B3 z3
      obtain ⟨v0, v1, v2, v3, v4, v5, v6, v7⟩ := V4.out
      go_upto_region 17 with fail
      refine wp_world ?_
      intro W5 hW5
      have R5 : Hid (BlkV W5 w.heap.size 0 0 0 ⟨#[]⟩) := by rw [hW5]; exact R4.out.off (by omega)
      have V5 : Hid (BlkV W5 (w.heap.size + 1) 2 a 0 ⟨#[]⟩) := by rw [hW5]; exact V4.out.set1
      have B5 : Below w.heap.size w W5 := by rw [hW5]; exact B4.setCell (by simp) _
      have z5 : w.heap.size + 1 < W5.heap.size := by rw [hW5]; simpa using z4
      clear hW5 R4 V4 B4 z4 v0 v1 v2 v3 v4 v5 v6 v7
      go_wp2_with fail
      refine (NB.out _).mono ?_
      rintro e w6 ⟨rfl, hb6⟩
      have R6 : Hid (BlkV w6 w.heap.size 0 0 0 ⟨#[]⟩) := R5.out.below hb6 (by omega)
      have V6 : Hid (BlkV w6 (w.heap.size + 1) 2 a 0 ⟨#[]⟩) := V5.out.below hb6 z5
      have B6 : Below w.heap.size w w6 := B5.trans (hb6.mono B5.size)
      have z6 : w.heap.size + 1 < w6.heap.size := by have := hb6.size; omega
      clear hb6 R5 V5 B5 z5
      obtain ⟨v0, v1, v2, v3, v4, v5, v6, v7⟩ := V6.out
      go_upto_region 18 with fail
      refine wp_world ?_
      intro W7 hW7
      have R7 : Hid (BlkV W7 w.heap.size 0 0 0 ⟨#[]⟩) := by rw [hW7]; exact R6.out.off (by omega)
      have V7 : Hid (BlkV W7 (w.heap.size + 1) 2 a b ⟨#[]⟩) := by rw [hW7]; exact V6.out.set2
      have B7 : Below w.heap.size w W7 := by rw [hW7]; exact B6.setCell (by simp) _
      have z7 : w.heap.size + 1 < W7.heap.size := by rw [hW7]; simpa using z6
      clear hW7 R6 V6 B6 z6 v0 v1 v2 v3 v4 v5 v6 v7
      obtain ⟨v0, v1, v2, v3, -, -, -, -⟩ := V7.out
      go_wp2_with fail
      refine (PR.out _).mono ?_
      rintro e w5 ⟨rfl, hb5⟩
      have R5 : Hid (BlkV w5 w.heap.size 0 0 0 ⟨#[]⟩) := R7.out.below hb5 (by omega)
      have V5 : Hid (BlkV w5 (w.heap.size + 1) 2 a b ⟨#[]⟩) := V7.out.below hb5 z7
      have B5 : Below w.heap.size w w5 := B7.trans (hb5.mono B7.size)
      clear hb5 v0 v1 v2 v3
      obtain ⟨v0, v1, v2, v3, -, -, -, -⟩ := V5.out
      obtain ⟨r0, r1, r2, r3, r4, r5, r6, r7⟩ := R5.out
      go_wp2
      generalize hW9 : World.setCell _ _ _ = W9
      have b9 : BlkV W9 w.heap.size 2 a b ⟨#[]⟩ := by rw [← hW9]; exact R5.out.four
      have hB9 : Below w.heap.size w W9 := by rw [← hW9]; exact (((B5.setCell (by simp) _).setCell (by simp) _).setCell (by simp) _).setCell (by simp) _
      clear hW9
      obtain ⟨x0, x1, x2, x3, -, -, -, -⟩ := b9
      refine bodyPost_ret (by simp [results, Tryz.results17, go_sem, x0, x1, x2, x3]; try rfl) rfl ?_
      exact ⟨rfl, hB9⟩
    · have hk' : (k : Int) < s.size := by omega
      have hkk : k < s.size := by omega
      have hne := HN.out k (by omega)
      obtain ⟨c, hc⟩ : ∃ c : UInt8, s[k] = c := ⟨_, rfl⟩
      rw [hc] at hne
      have q2 : ((c.toNat : Int) == 47) = false := by simp; omega
      clear hne
      go_wp2
      exact ⟨⟨k + 1, by omega, by simp, by first | rfl | trivial⟩, by simp [intOf]; omega⟩
  
end Go.Proofs.YtedoahibceeklabGreatDoor

namespace Go.Proofs.YtedoahibceeklabGreatDoor
open Go.RowKit Go.Shelf
set_option linter.unusedVariables false

theorem gss_str (t : List UInt8) : gss (quoted t) = (⟨3, 0, 0, ⟨t.toArray⟩⟩, true) := by
  have e0 : quoted t = 34 :: (inside t ++ [34]) := by simp [quoted]
  rw [e0]
  unfold gss
  have e1 : Lib.hasPrefix (34 :: (inside t ++ [34])) [34] = true := by simp [Lib.hasPrefix, List.isPrefixOf]
  obtain ⟨e2, e3⟩ := suff_quote (inside t)
  rw [e1]
  simp only [if_true, List.drop_succ_cons, List.drop_zero]
  unfold unqS
  rw [e2, e3]
  simp only [if_true]
  rw [unq_inside]
  rfl
theorem pure3 (S : ByteArray) : pureB 3 0 0 S = true := by simp [pureB]
theorem prs_quoted (t : List UInt8) : prs (quoted t) = if 64 < t.length then (⟨0, 0, 0, ⟨#[]⟩⟩, 2) else (⟨3, 0, 0, ⟨t.toArray⟩⟩, 0) := by
  unfold prs
  rw [gss_str]
  dsimp only
  have e1 : vtext 3 0 0 ⟨t.toArray⟩ = quoted t := by simp [vtext]
  have e2 : (⟨t.toArray⟩ : ByteArray).size = t.length := by show t.toArray.size = _; simp
  rw [if_pos ⟨rfl, pure3 _, e1⟩]
  by_cases h : 64 < t.length
  · have e3 : chk 3 0 0 ⟨t.toArray⟩ = 2 := by simp [chk, pure3, e2, h]
    rw [e3, if_pos h]
    rfl
  · have e3 : chk 3 0 0 ⟨t.toArray⟩ = 0 := by simp [chk, pure3, e2, h]
    rw [e3, if_neg h]
    rfl
theorem prs_bad {l : List UInt8} (hp : Lib.hasPrefix l [34] = true) (h : quoted (dq (l.drop 1)) ≠ l) : prs l = (⟨0, 0, 0, ⟨#[]⟩⟩, 70) := by
  unfold prs
  refine if_neg ?_
  rintro ⟨_, _, g3⟩
  have e0 : gss l = (⟨3, 0, 0, outS (unqS (l.drop 1))⟩, outB (unqS (l.drop 1))) := by simp [gss, hp]
  rw [e0] at g3
  dsimp only at g3
  have e1 : vtext 3 0 0 (outS (unqS (l.drop 1))) = quoted (outS (unqS (l.drop 1))).data.toList := by simp [vtext]
  rw [e1] at g3
  generalize (outS (unqS (l.drop 1))).data.toList = S at g3
  apply h
  rw [← g3]
  have e2 : (quoted S).drop 1 = inside S ++ [34] := by simp [quoted]
  rw [e2, dq_inside]
theorem chk_int (n : Int) : chk 1 n 0 ⟨#[]⟩ = 0 := by simp [chk, pureB, ByteArray.toList_eq]; decide
theorem prs_int {l : List UInt8} (hp : Lib.hasPrefix l [34] = false) (hc : (cutL l).2.2 = false) (h : ¬ (chk 1 (numS l) 0 ⟨#[]⟩ = 0 ∧ vtext 1 (numS l) 0 ⟨#[]⟩ = l)) : prs l = (⟨0, 0, 0, ⟨#[]⟩⟩, 70) := by
  unfold prs
  refine if_neg ?_
  rintro ⟨g1, g2, g3⟩
  have e0 : gss l = (⟨1, (pint l).1, 0, ⟨#[]⟩⟩, (pint l).2) := by simp [gss, hp, hc]
  have hf := pint_fits l
  rw [e0] at g3
  dsimp only at g3
  have e1 : vtext 1 (pint l).1 0 ⟨#[]⟩ = Lib.itoa (pint l).1 := by simp [vtext]
  rw [e1] at g3
  have e2 : numS l = (pint l).1 := by
    have q := numS_itoa hf.1 hf.2
    rw [g3] at q
    exact q
  apply h
  rw [e2]
  exact ⟨chk_int _, e1.trans g3⟩
theorem prs_rat {l : List UInt8} (hp : Lib.hasPrefix l [34] = false) (hc : (cutL l).2.2 = true) (h : ¬ (chk 2 (numS (cutL l).1) (numS (cutL l).2.1) ⟨#[]⟩ = 0 ∧ vtext 2 (numS (cutL l).1) (numS (cutL l).2.1) ⟨#[]⟩ = l)) : prs l = (⟨0, 0, 0, ⟨#[]⟩⟩, 70) := by
  unfold prs
  refine if_neg ?_
  rintro ⟨g1, g2, g3⟩
  cases hk : (pint (cutL l).1).2
  · have e0 : gss l = (⟨1, (pint (cutL l).1).1, 0, ⟨#[]⟩⟩, false) := by simp [gss, hp, hc, hk]
    rw [e0] at g1
    cases g1
  · have e0 : gss l = (⟨2, (pint (cutL l).1).1, (pint (cutL l).2.1).1, ⟨#[]⟩⟩, (pint (cutL l).2.1).2) := by simp [gss, hp, hc, hk]
    have f1 := pint_fits (cutL l).1
    have f2 := pint_fits (cutL l).2.1
    rw [e0] at g2 g3
    dsimp only at g2 g3
    generalize (pint (cutL l).1).1 = n at g2 g3 f1
    generalize (pint (cutL l).2.1).1 = d at g2 g3 f2
    have e1 : vtext 2 n d ⟨#[]⟩ = Lib.itoa n ++ 47 :: Lib.itoa d := by simp [vtext]
    have e2 : cutL l = (Lib.itoa n, Lib.itoa d, true) := by rw [← g3, e1]; exact cutL_some _ _ (itoa_cut n)
    apply h
    rw [e2]
    dsimp only
    rw [numS_itoa f1.1 f1.2, numS_itoa f2.1 f2.2]
    refine ⟨?_, g3⟩
    unfold chk
    rw [g2]
    rfl
theorem prs_good {v : Val} {l : List UInt8} (h : v.may = 0) (f : v.Fits) (e : vtext v.k v.n v.d v.s = l) : prs l = (v, 0) := by rw [← e]; exact prs_text h f

theorem pref_of (s : ByteArray) : Lib.hasPrefix s.data.toList [34] = true → ∃ (h0 : 0 < s.size), s[0] = 34 := by
  intro h
  obtain ⟨⟨l⟩⟩ := s
  match l with
  | [] => simp [Lib.hasPrefix] at h
  | c :: r =>
    simp [Lib.hasPrefix, List.isPrefixOf] at h
    exact ⟨by show 0 < (c :: r).length; simp, h.symm⟩
theorem nopref_of (s : ByteArray) : Lib.hasPrefix s.data.toList [34] = false → s.size = 0 ∨ ∃ (h0 : 0 < s.size), s[0].toNat ≠ 34 := by
  intro h
  obtain ⟨⟨l⟩⟩ := s
  match l with
  | [] => exact Or.inl rfl
  | c :: r =>
    right
    simp [Lib.hasPrefix, List.isPrefixOf] at h
    refine ⟨by show 0 < (c :: r).length; simp, ?_⟩
    show c.toNat ≠ 34
    intro g
    exact h (UInt8.toNat_inj.1 (by rw [g]; rfl))
theorem get_list (s : ByteArray) (j : Nat) (h : j < s.size) : s[j] = s.data.toList[j]'(by simpa using h) := rfl

theorem cutL_notin : ∀ (l : List UInt8), (cutL l).2.2 = false → ∀ c ∈ l, c.toNat ≠ 47
  | [], _, c, hc => by cases hc
  | a :: r, h, c, hc => by
    unfold cutL at h
    by_cases ha : a.toNat = 47
    · rw [if_pos ha] at h; cases h
    · rw [if_neg ha] at h
      rcases List.mem_cons.1 hc with e | e
      · rw [e]; exact ha
      · exact cutL_notin r h c e
theorem cutL_fst : ∀ (l : List UInt8), ∀ c ∈ (cutL l).1, c.toNat ≠ 47
  | [], c, hc => by simp [cutL] at hc
  | a :: r, c, hc => by
    unfold cutL at hc
    by_cases ha : a.toNat = 47
    · rw [if_pos ha] at hc; simp at hc
    · rw [if_neg ha] at hc
      simp only [List.mem_cons] at hc
      rcases hc with e | e
      · rw [e]; exact ha
      · exact cutL_fst r c e

theorem dparse_any (s : ByteArray) (w : World) (hs : s.size ≤ 1048576) :
    Calls Tryz.prog 17 #[.string s] w fun e w' => e = .returned (.tuple #[.agg #[.int .i64 (prs s.data.toList).1.k, .int .i64 (prs s.data.toList).1.n, .int .i64 (prs s.data.toList).1.d, .string (prs s.data.toList).1.s], .int .i64 (prs s.data.toList).2]) ∧ Below w.heap.size w w' := by
  have hl : s.data.toList.length = s.size := by simp
  cases hp : Lib.hasPrefix s.data.toList [34]
  · have hn := nopref_of s hp
    have NS := fun (W : World) => number_any s W (by omega)
    cases hc : (cutL s.data.toList).2.2
    · have hno : ∀ j (h : j < s.size), s[j].toNat ≠ 47 := fun j h => by
        rw [get_list]
        exact cutL_notin _ hc _ (List.getElem_mem _)
      have nf := numS_fits s.data.toList
      have PR := fun (W : World) => dprint_any 1 (numS s.data.toList) 0 ⟨#[]⟩ W nf.1 nf.2 (by decide) (by decide)
      rw [chk_int] at PR
      simp only [if_true] at PR
      by_cases ht : vtext 1 (numS s.data.toList) 0 ⟨#[]⟩ = s.data.toList
      · have e0 : prs s.data.toList = (⟨1, numS s.data.toList, 0, ⟨#[]⟩⟩, 0) := prs_good (v := ⟨1, numS s.data.toList, 0, ⟨#[]⟩⟩) (chk_int _) ⟨nf.1, nf.2, by simp, by simp⟩ ht
        rw [e0]
        exact dp_int_yes s _ ⟨#[]⟩ ⟨#[]⟩ _ 0 0 0 0 w (by omega) hn NS hno PR rfl (ba_eq ht.symm)
      · rw [prs_int hp hc (fun h => ht h.2)]
        exact dp_int_not s _ ⟨#[]⟩ ⟨#[]⟩ _ 0 0 0 0 w (by omega) hn NS hno PR rfl (by simp only [toList_data]; simpa using ht)
    · obtain ⟨h1, _⟩ := cutL_yes _ hc
      have hlen : s.data.toList.length = (cutL s.data.toList).1.length + 1 + (cutL s.data.toList).2.1.length := by
        have := congrArg List.length h1
        rw [List.length_append, List.length_cons] at this
        omega
      have hm : (cutL s.data.toList).1.length < s.size := by omega
      have x1 : s.extract 0 (cutL s.data.toList).1.length = ⟨(cutL s.data.toList).1.toArray⟩ := by
        refine ba_eq ?_
        rw [ext_take s _ (by omega)]
        generalize cutL s.data.toList = c at h1
        rw [h1]
        simp
      have x2 : s.extract ((cutL s.data.toList).1.length + 1) s.size = ⟨(cutL s.data.toList).2.1.toArray⟩ := by
        refine ba_eq ?_
        rw [ext_drop s _ (by omega)]
        generalize cutL s.data.toList = c at h1
        rw [h1, List.drop_append]
        simp
      have hat : ∀ j (h : j < s.size), s[j] = ((cutL s.data.toList).1 ++ 47 :: (cutL s.data.toList).2.1)[j]'(by rw [← h1]; omega) := fun j h => by
        rw [get_list]
        congr 1
      have hfm : s[(cutL s.data.toList).1.length].toNat = 47 := by
        rw [hat _ hm]
        simp
      have hno : ∀ j (h : j < (cutL s.data.toList).1.length), s[j].toNat ≠ 47 := fun j h => by
        rw [hat j (by omega), List.getElem_append_left h]
        exact cutL_fst _ _ (List.getElem_mem _)
      have fa := numS_fits (cutL s.data.toList).1
      have fb := numS_fits (cutL s.data.toList).2.1
      have NA := fun (W : World) => number_any ⟨(cutL s.data.toList).1.toArray⟩ W (by show (cutL s.data.toList).1.toArray.size ≤ _; simp; omega)
      have NB := fun (W : World) => number_any ⟨(cutL s.data.toList).2.1.toArray⟩ W (by show (cutL s.data.toList).2.1.toArray.size ≤ _; simp; omega)
      have PR := fun (W : World) => dprint_any 2 (numS (cutL s.data.toList).1) (numS (cutL s.data.toList).2.1) ⟨#[]⟩ W fa.1 fa.2 fb.1 fb.2
      by_cases hk : chk 2 (numS (cutL s.data.toList).1) (numS (cutL s.data.toList).2.1) ⟨#[]⟩ = 0
      · by_cases ht : vtext 2 (numS (cutL s.data.toList).1) (numS (cutL s.data.toList).2.1) ⟨#[]⟩ = s.data.toList
        · have e0 := prs_good (v := ⟨2, numS (cutL s.data.toList).1, numS (cutL s.data.toList).2.1, ⟨#[]⟩⟩) hk ⟨fa.1, fa.2, fb.1, fb.2⟩ ht
          rw [e0]
          simp only [if_pos hk] at PR
          exact dp_rat_yes s _ _ _ _ _ _ _ _ w (by omega) hn NS NA NB x1 x2 hm hfm hno PR hk (ba_eq ht.symm)
        · rw [prs_rat hp hc (fun h => ht h.2)]
          simp only [if_pos hk] at PR
          exact dp_rat_not s _ _ _ _ _ _ _ _ w (by omega) hn NS NA NB x1 x2 hm hfm hno PR hk (by simp only [toList_data]; simpa using ht)
      · rw [prs_rat hp hc (fun h => hk h.1)]
        exact dp_rat_err s _ _ _ _ _ _ _ _ w (by omega) hn NS NA NB x1 x2 hm hfm hno PR (by simpa using hk)
  · obtain ⟨h0, hc⟩ := pref_of s hp
    have hd := dq_len _ (s.data.toList.drop 1) (Nat.le_refl _)
    have hd2 : (s.data.toList.drop 1).length ≤ s.size := by simp
    have eT : (⟨(dq (s.data.toList.drop 1)).toArray⟩ : ByteArray).size = (dq (s.data.toList.drop 1)).length := by show (dq (s.data.toList.drop 1)).toArray.size = _; simp
    have UN := fun (W : World) => dunq_any s W (by omega)
    have QU := fun (W : World) => dquote_any ⟨(dq (s.data.toList.drop 1)).toArray⟩ W (by omega)
    by_cases hq : quoted (dq (s.data.toList.drop 1)) = s.data.toList
    · have e0 := prs_quoted (dq (s.data.toList.drop 1))
      rw [hq] at e0
      rw [e0]
      by_cases h64 : 64 < (dq (s.data.toList.drop 1)).length
      · rw [if_pos h64]
        exact dp_long s _ _ 34 w h0 hc (by decide) UN QU (ba_eq hq.symm).symm (by omega)
      · rw [if_neg h64]
        exact dp_str s ⟨(dq (s.data.toList.drop 1)).toArray⟩ _ 34 w h0 hc (by decide) UN QU (ba_eq hq.symm).symm (by omega)
    · rw [prs_bad hp hq]
      exact dp_bad s _ _ 34 w h0 hc (by decide) UN QU (by simp only [toList_data]; simpa using hq)

set_option maxRecDepth 100000 in
set_option maxHeartbeats 4000000 in
theorem parses_walk (s : ByteArray) (w : World) (hs : s.size ≤ 1048576) (ht : Pow w) (he : Errs w) (h8 : 8 ≤ w.heap.size) :
    Calls Tryz.prog 5 #[.string s] w fun e w' => e = .returned (.bool true) ∧ Below w.heap.size w w' := by
  obtain ⟨⟨X, G⟩, eX⟩ : ∃ X, Hid (prs s.data.toList = X) := ⟨_, rfl⟩
  have r1 : Hid (∀ W : World, Pow W → Errs W → 8 ≤ W.heap.size → Calls Tryz.prog 16 #[.string s] W fun e w' => e = .returned (.tuple #[.agg #[.int .i64 X.k, .int .i64 X.n, .int .i64 X.d, .string X.s], .int .i64 G]) ∧ Below W.heap.size W w') := fun W g0 g1 g2 => by
    have q := parse_any s W (by omega) g0 g1 g2
    rw [eX.out] at q
    exact q
  have r2 : Hid (∀ W : World, Calls Tryz.prog 17 #[.string s] W fun e w' => e = .returned (.tuple #[.agg #[.int .i64 X.k, .int .i64 X.n, .int .i64 X.d, .string X.s], .int .i64 G]) ∧ Below W.heap.size W w') := fun W => by
    have q := dparse_any s W hs
    rw [eX.out] at q
    exact q
  clear eX
  go_enter Tryz.func5, Tryz.ntmps5
  go_wp2_with fail
  refine (r1.out _ ht he h8).mono ?_
  rintro e w1 ⟨rfl, K1⟩
  go_upto_region 2 with fail
  refine wp_world ?_
  intro W2 hW2
  have V2 : Hid (BlkV W2 w1.heap.size X.k X.n X.d X.s) := by rw [hW2]; constructor <;> simp (maxDischargeDepth := 12) [go_sem]
  have K2 : Below w.heap.size w W2 := by rw [hW2]; exact K1.alloc K1.size _
  have z2 : w1.heap.size < W2.heap.size := by rw [hW2]; simp
  clear hW2 K1
  go_wp2_with fail
  refine (r2.out _).mono ?_
  rintro e w3 ⟨rfl, hb⟩
  have V3 : Hid (BlkV w3 w1.heap.size X.k X.n X.d X.s) := V2.out.below hb z2
  have K3 : Below w.heap.size w w3 := K2.trans (hb.mono K2.size)
  have z3 : w1.heap.size < w3.heap.size := by have := hb.size; omega
  clear hb V2 K2 z2
  go_upto_region 3 with fail
  refine wp_world ?_
  intro W4 hW4
  have U4 : Hid (BlkV W4 w3.heap.size X.k X.n X.d X.s) := by rw [hW4]; constructor <;> simp (maxDischargeDepth := 12) [go_sem]
  have V4 : Hid (BlkV W4 w1.heap.size X.k X.n X.d X.s) := by rw [hW4]; exact V3.out.below ((Below.refl w3.heap.size w3).alloc (Nat.le_refl _) _) z3
  have K4 : Below w.heap.size w W4 := by rw [hW4]; exact K3.alloc K3.size _
  have y4 : w3.heap.size < W4.heap.size := by rw [hW4]; simp
  clear hW4 V3 K3
  go_wp2_with fail
  refine (live_any _ (ht.below K4)).mono ?_
  rintro e w5 ⟨rfl, hb⟩
  have U5 : Hid (BlkV w5 w3.heap.size X.k X.n X.d X.s) := U4.out.below hb y4
  have V5 : Hid (BlkV w5 w1.heap.size X.k X.n X.d X.s) := V4.out.below hb (by omega)
  have K5 : Below w.heap.size w w5 := K4.trans (hb.mono K4.size)
  clear hb U4 V4 K4
  obtain ⟨a0, a1, a2, a3, -, -, -, -⟩ := V5.out
  obtain ⟨b0, b1, b2, b3, -, -, -, -⟩ := U5.out
  go_wp2_with fail
  refine (lsame_yes _ _ _ _ _).mono ?_
  rintro e w6 ⟨rfl, hb⟩
  go_wp2
  go_ret
  exact ⟨rfl, K5.trans (hb.mono K5.size)⟩

end Go.Proofs.YtedoahibceeklabGreatDoor

namespace Go.Proofs.YtedoahibceeklabGreatDoor.valueParses
open Go.Joins Go.ChangeMaps Go.ChangeShapes Go.WideShapes Go.ChangeAt Go.RowKit
set_option linter.unusedVariables false
set_option maxRecDepth 100000

theorem own : ownKnob Tryz.prog.godebug = none := by kernel_rfl
theorem gTab : Tryz.prog.globalNamed "internal/strconv.uint64pow10" = some 5 := by kernel_rfl
theorem gTabType : (Tryz.prog.globals[5]?).map (·.type) = some 149 := by kernel_rfl
theorem cellsT : Tryz.prog.cellsOf 149 = 20 := by kernel_rfl
theorem cellsE : Tryz.prog.cellsOf 96 = 1 := by kernel_rfl

/-- What the row's list gives: the table of the powers of ten. -/
theorem table {W : World} (h : laidMetH Tryz.prog Rows.valueParsesUptoRow.laid W) : Pow W := by
  have h0 : laidMet Tryz.prog Rows.valueParsesUptoRow.laid W := h
  exact Lib.tabIs_of_head gTab gTabType Tryz.underlying149 Tryz.underlying96 cellsE cellsT (laidMet.tail (laidMet.tail h0))

theorem g64 : Tryz.prog.globalNamed "math/bits.deBruijn64tab" = some 7 := by kernel_rfl
theorem g64Type : (Tryz.prog.globals[7]?).map (·.type) = some 160 := by kernel_rfl
theorem c64 : Tryz.prog.cellsOf 160 = 64 := by kernel_rfl
theorem c8 : Tryz.prog.cellsOf 5 = 1 := by kernel_rfl
theorem gS : Tryz.prog.globalNamed "strconv.ErrSyntax" = some 1 := by kernel_rfl
theorem gSType : (Tryz.prog.globals[1]?).map (·.type) = some 73 := by kernel_rfl
theorem gR : Tryz.prog.globalNamed "strconv.ErrRange" = some 2 := by kernel_rfl
theorem gRType : (Tryz.prog.globals[2]?).map (·.type) = some 73 := by kernel_rfl
theorem cES : Tryz.prog.cellsOf 157 = 1 := by kernel_rfl
theorem cS : Tryz.prog.cellsOf 9 = 1 := by kernel_rfl
theorem star : "*" ++ "errors.errorString" = "*errors.errorString" := by decide
theorem rowE (u : TypeId) (h : Tryz.prog.typeName? 3 u = some "*errors.errorString") : u = 155 :=
  typeName_ptr_named (nm := "errors.errorString") (by rw [star]; kernel_rfl) (by kernel_rfl) (by decide) u (by rw [star]; exact h)
/-- What the row's list gives of the two errors, and how many blocks there are at least. -/
theorem errs {W : World} (h : laidMetH Tryz.prog Rows.valueParsesUptoRow.laid W) : Errs W ∧ 8 ≤ W.heap.size := by
  have h0 : laidMet Tryz.prog Rows.valueParsesUptoRow.laid W := h
  have h1 := laidMet.tail h0
  have h3 := laidMet.tail (laidMet.tail h1)
  have h4 := laidMet.tail h3
  have t : Lib.TabIs Tryz.prog W "math/bits.deBruijn64tab" .u8 [0, 1, 56, 2, 57, 49, 28, 3, 61, 58, 42, 50, 38, 29, 17, 4, 62, 47, 59, 36, 45, 43, 51, 22, 53, 39, 33, 30, 24, 18, 12, 5, 63, 55, 48, 27, 60, 41, 37, 16, 46, 35, 44, 21, 52, 32, 23, 11, 54, 26, 40, 15, 34, 20, 31, 10, 25, 14, 19, 9, 13, 8, 7, 6] := Lib.tabIs_of_head g64 g64Type Tryz.underlying160 Tryz.underlying5 c8 c64 h1
  have b := World.block_lt_of_cell? _ _ (t.cell g64 0 (by decide))
  obtain ⟨a1, s1, v1, -, -, -⟩ := laid_sentinel h3 gR gRType Tryz.underlying73 rowE Tryz.underlying155 Tryz.underlying157 rfl rfl Tryz.underlying9 cES cS
  obtain ⟨a2, s2, v2, -, -, -⟩ := laid_sentinel h4 gS gSType Tryz.underlying73 rowE Tryz.underlying155 Tryz.underlying157 rfl rfl Tryz.underlying9 cES cS
  refine ⟨⟨⟨_, by simpa using World.var?_cell gS v2 0, Or.inr ⟨_, _, rfl⟩⟩, ⟨_, by simpa using World.var?_cell gR v1 0, Or.inr ⟨_, _, rfl⟩⟩⟩, ?_⟩
  exact b

theorem cellsV : Tryz.prog.cellsOf 23 = 4 := by kernel_rfl
theorem bds {x : Int} (h : (Lit.int .i64 x).wf = true) : -9223372036854775808 ≤ x ∧ x ≤ 9223372036854775807 := by
  simp [Lit.wf, IntKind.min, IntKind.max, IntKind.signed, IntKind.bits] at h
  omega

/-- The row's end, where nothing that was there has turned and nothing is asked again. -/
theorem post_new {H : Type} {enc : TypeId × Value → H} {P : Program} {f : Func} {s : ChangeSpec} {apart fresh handsOn : Bool} {W W' : World} {args : Array Value} {v : Value} {ds gs : List (DataW H)} {before pa pv : List MemPlace}
    (hW : DataW.Whole enc P f.params.toList s.vars apart W args.toList ds gs before)
    (hres : ∀ (b : Nat) (sp : Nat → Bool) (hd : Bool), DataW.TrodAll enc P W' b sp hd f.resultTypes.toList (v.resultList f.resultTypes.size) (s.fn H (ds ++ gs)).results [])
    (hargs : DataW.TrodAll enc P W' 0 (fun b => decide (b < W.heap.size)) true f.params.toList args.toList (s.fn H (ds ++ gs)).args pa)
    (hvars : ∀ sp : Nat → Bool, DataW.TrodVars enc P W' sp s.vars (s.fn H (ds ++ gs)).vars pv)
    (hps : before = pa ++ pv) (hk : W.keptBut W' (· ∈ before)) : s.post enc P f apart fresh handsOn false W args v W' :=
  ⟨ds, gs, before, [], pa, pv, hW, hres _ _ _, hargs, hvars _, World.keptBut_mono (fun _ hp => ⟨hp, Or.inr (List.mem_append.1 (hps ▸ hp))⟩) hk, fun h => Bool.noConfusion h⟩

theorem laidOut : laidOutB Tryz.prog = true := by kernel_rfl
/-- What the walk gives in every world that holds the table and the errors. -/
theorem contract (H : Type) (enc : TypeId × Value → H) (W : World) (base : Nat) (args : Array Value) (ds gs : List (DataW H)) (before : List MemPlace)
    (hval : ∀ (j : Nat) t v, Tryz.f5.params[j]? = some t → args[j]? = some v → Value.okWide Tryz.prog W .any base t v)
    (hW : DataW.Whole enc Tryz.prog Tryz.f5.params.toList Rows.valueParsesSpec.vars false W args.toList ds gs before) (bound : Rows.uptoSmall H (ds ++ gs) = true) (hL : laidMetH Tryz.prog Rows.valueParsesUptoRow.laid W) :
    Calls Tryz.prog 5 args W fun e W' => ∃ v, e = .returned v ∧ Rows.valueParsesSpec.post enc Tryz.prog Tryz.f5 false true false false W args v W' := by
  have hW' := hW
  obtain ⟨p, q, hA0, hV, rfl, hfz, hnd⟩ := hW
  have hA : DataW.TrodAll enc Tryz.prog W 0 (fun _ => true) true Tryz.f5.params.toList args.toList ds p := hA0
  rw [Tryz.params5] at hA hval
  obtain ⟨v0, vs0, d0, ds0, p0, q0, hargs, rfl, rfl, h0, r0⟩ := trodAll_cons hA
  obtain ⟨rfl, rfl, rfl⟩ := trodAll_nil r0
  obtain rfl : args = #[v0] := by cases args; simp_all
  obtain ⟨rfl, rfl⟩ := trodVars_none hV
  have k0 := h0
  obtain ⟨t0, rfl, rfl, rfl, wt0⟩ := open_string Tryz.underlying9 (hval 0 9 v0 rfl rfl) h0
  clear hA0
  simp only [List.append_nil] at hW'
  obtain ⟨hE, h8⟩ := errs hL
  refine (parses_walk t0 W (by have hb := bound; simp [Rows.uptoSmall, Rows.uptoBulkAll, Rows.uptoBulk] at hb; omega) (table hL) hE h8).mono fun e W' ⟨he, hg⟩ => ?_
  subst he
  have a0 := Below.trod (W' := W') laidOut (by kernel_rfl) (of_decide_eq_true (by kernel_rfl)) k0 hg (fun y hy => by simp at hy)
  exact ⟨_, rfl, post_new (pa := []) (pv := []) hW' (fun _ _ _ => (trodAll_cons_mk (shut_bool Tryz.underlying4 _) trodAll_mk0)) (trodAll_cons_mk a0 trodAll_mk0) (fun _ => rfl) rfl (hg.frame _)⟩

abbrev synS : ByteArray := { data := #[105, 110, 118, 97, 108, 105, 100, 32, 115, 121, 110, 116, 97, 120] }
abbrev rngS : ByteArray := { data := #[118, 97, 108, 117, 101, 32, 111, 117, 116, 32, 111, 102, 32, 114, 97, 110, 103, 101] }
/-- So many blocks has the settled world. -/
noncomputable def low : Nat := (World.holding Tryz.prog default ⟨#[], #[], []⟩).heap.size
/-- The settled world, the five variables holding what their initialisers lay. -/
noncomputable def laidWorld (os : Os) : World :=
  let w0 := World.holding Tryz.prog os ⟨#[.cells #[.string synS] 157, .cells #[.string rngS] 157], #[], []⟩
  { w0 with heap := ((((w0.heap.modify 1 fun
      | .cells _ t frozen => .cells #[.iface 155 (.pointer (some ⟨low, 0, none⟩))] t frozen
      | o => o).modify 2 fun
      | .cells _ t frozen => .cells #[.iface 155 (.pointer (some ⟨low + 1, 0, none⟩))] t frozen
      | o => o).modify 5 fun
      | .cells _ t frozen => .cells #[.int .u64 1, .int .u64 10, .int .u64 100, .int .u64 1000, .int .u64 10000, .int .u64 100000, .int .u64 1000000, .int .u64 10000000, .int .u64 100000000, .int .u64 1000000000, .int .u64 10000000000, .int .u64 100000000000, .int .u64 1000000000000, .int .u64 10000000000000, .int .u64 100000000000000, .int .u64 1000000000000000, .int .u64 10000000000000000, .int .u64 100000000000000000, .int .u64 1000000000000000000, .int .u64 10000000000000000000] t frozen
      | o => o).modify 6 fun
      | .cells _ t frozen => .cells #[.int .u8 0, .int .u8 1, .int .u8 28, .int .u8 2, .int .u8 29, .int .u8 14, .int .u8 24, .int .u8 3, .int .u8 30, .int .u8 22, .int .u8 20, .int .u8 15, .int .u8 25, .int .u8 17, .int .u8 4, .int .u8 8, .int .u8 31, .int .u8 27, .int .u8 13, .int .u8 23, .int .u8 21, .int .u8 19, .int .u8 16, .int .u8 7, .int .u8 26, .int .u8 12, .int .u8 18, .int .u8 6, .int .u8 11, .int .u8 5, .int .u8 10, .int .u8 9] t frozen
      | o => o).modify 7 fun
      | .cells _ t frozen => .cells #[.int .u8 0, .int .u8 1, .int .u8 56, .int .u8 2, .int .u8 57, .int .u8 49, .int .u8 28, .int .u8 3, .int .u8 61, .int .u8 58, .int .u8 42, .int .u8 50, .int .u8 38, .int .u8 29, .int .u8 17, .int .u8 4, .int .u8 62, .int .u8 47, .int .u8 59, .int .u8 36, .int .u8 45, .int .u8 43, .int .u8 51, .int .u8 22, .int .u8 53, .int .u8 39, .int .u8 33, .int .u8 30, .int .u8 24, .int .u8 18, .int .u8 12, .int .u8 5, .int .u8 63, .int .u8 55, .int .u8 48, .int .u8 27, .int .u8 60, .int .u8 41, .int .u8 37, .int .u8 16, .int .u8 46, .int .u8 35, .int .u8 44, .int .u8 21, .int .u8 52, .int .u8 32, .int .u8 23, .int .u8 11, .int .u8 54, .int .u8 26, .int .u8 40, .int .u8 15, .int .u8 34, .int .u8 20, .int .u8 31, .int .u8 10, .int .u8 25, .int .u8 14, .int .u8 19, .int .u8 9, .int .u8 13, .int .u8 8, .int .u8 7, .int .u8 6] t frozen
      | o => o }
theorem laid_met (os : Os) : laidMet Tryz.prog Rows.valueParsesUptoRow.laid ((laidWorld os).forCall (fun _ _ => 0) ⟨#[], #[.string ⟨#[]⟩], []⟩).memory :=
  laidMet_of_run' 80 (by kernel_rfl) (by kernel_rfl)
theorem reads (os : Os) {H : Type} (enc : TypeId × Value → H) : ∃ places, DataW.whole enc Tryz.prog ((laidWorld os).forCall (fun _ _ => 0) ⟨#[], #[.string ⟨#[]⟩], []⟩).memory Tryz.f5.params.toList Rows.valueParsesSpec.vars false (#[.string ⟨#[]⟩] : Array Value).toList 8 = some ([.lit (.string [])], [], places) :=
  ⟨[], by kernel_rfl⟩

theorem lifted (os : Os) (started : os.Started) (H : Type) (enc : TypeId × Value → H) (F : Stop.Interp) :
    ReturnsInHanded {} Tryz.checked os 5 .any ((Rows.OpenSpec.upto Rows.valueParsesSpec).preRow enc Tryz.prog Tryz.f5 Rows.valueParsesUptoRow.domain false Rows.valueParsesUptoRow.laid) (((Rows.OpenSpec.upto Rows.valueParsesSpec).at F).post enc Tryz.prog Tryz.f5 false true false false) := by
  obtain ⟨places, hx⟩ := reads os enc
  refine returnsInHanded_of_row (C := Tryz.checked) (s := Rows.OpenSpec.upto Rows.valueParsesSpec) own started (by kernel_rfl) Tryz.func5
    (witness_row_at (enc := enc) (C := Tryz.checked) false (laidWorld os) #[.string ⟨#[]⟩] rfl (by kernel_rfl) (by kernel_rfl) (by kernel_rfl)
      (OpenSpec.preRow_of_cond 8 hx (by kernel_rfl) (fun k hk => by cases hk; kernel_rfl) (by kernel_rfl) (laid_met os))) ?_
  intro W base args ds gs before hval hW _ hc _ hL _ _
  exact contract H enc W base args ds gs before hval hW (hc _ rfl) hL

theorem said : Rows.ValueParsesUptoSaid :=
  OpenClaim.holds_of_cond 5 Tryz.f5 rfl rfl rfl rfl rfl rfl rfl ⟨rfl, rfl, rfl, rfl, rfl⟩ rfl rfl rfl rfl rfl (by kernel_rfl) Tryz.func5 (by kernel_rfl)
    (of_decide_eq_true (by kernel_rfl)) (by unfold Func.isWrapper; first | (rw [if_pos (by decide +kernel)]; kernel_rfl) | (rw [if_neg (by decide +kernel)]; exact ⟨rfl, rfl⟩))
    (fun os started H enc _ F => by rw [OpenClaim.pre_eq_preRow]; exact lifted os started H enc F)

theorem plain (f : FuncId) (fn : Func) (hf : Tryz.pinned.checked.prog.funcNamed "custos/custoslaw02.ValueParses" = some f) (hfn : Tryz.pinned.checked.prog.funcs[f]? = some fn) :
    true = Tryz.pinned.checked.prog.looks [] ∧ ∀ (j : Nat) t, fn.params[j]? = some t → Tryz.pinned.checked.prog.wantsStandIn t = false := by
  obtain rfl : f = 5 := Option.some.inj ((show Tryz.prog.funcNamed "custos/custoslaw02.ValueParses" = some 5 by kernel_rfl).symm.trans hf) |>.symm
  obtain rfl : fn = Tryz.f5 := (Option.some.inj (Tryz.func5.symm.trans hfn)).symm
  refine ⟨by kernel_rfl, fun j t ht => ?_⟩
  rw [Tryz.params5] at ht
  have hm := Array.mem_of_getElem? ht
  simp at hm
  subst hm
  exact (by kernel_rfl : Tryz.pinned.checked.prog.wantsStandIn 9 = false)

/-- THE CARD. -/
theorem card : Rows.ValueParsesUptoCardSaid :=
  Claim7.holds_tied_plain_at .later [] _ _ _ _ said (fun _ h => by cases h) (by kernel_rfl) (fun _ h => by cases h) valueParsesUpto_row_tie rfl ⟨rfl, rfl⟩ (by kernel_rfl) rfl plain (by kernel_rfl)

end Go.Proofs.YtedoahibceeklabGreatDoor.valueParses
namespace Go.Proofs.YtedoahibceeklabGreatDoor
theorem valueParses_holds : Rows.ValueParsesUptoCardSaid := valueParses.card
#print axioms valueParses_holds
end Go.Proofs.YtedoahibceeklabGreatDoor
