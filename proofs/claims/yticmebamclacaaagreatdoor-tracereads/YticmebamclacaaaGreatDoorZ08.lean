/- The document's text of a signature. -/
import Derived.Test.YticmebamclacaaaGreatDoorZ07
import Derived.Test.YticmebamclacaaaGreatDoorZ02
import Derived.Test.YticmebamclacaaaGreatDoorZ05
import Derived.KernelRfl
import Derived.OwnWalk
import Derived.Laws.OwnMore
import Derived.Deep.RegionLaw
import Derived.Test.YticmebamclacaaaGreatDoorZ06
import Derived.Deep.RegionWith
import Derived.Test.YticmebamclacaaaGreatDoorZ03

namespace Go.Proofs.YticmebamclacaaaGreatDoor
open Go.RowKit Go.Shelf
set_option linter.unusedVariables false

theorem BlkV.set0 {W : World} {B : Nat} {k n d x : Int} {s : ByteArray} (h : BlkV W B k n d s) : BlkV (W.setCell ⟨B, 0, none⟩ (.int .i64 x)) B x n d s := by
  obtain ⟨c0, c1, c2, c3, f0, f1, f2, f3⟩ := h
  constructor <;> simp (maxDischargeDepth := 12) [go_sem, c0, c1, c2, c3, f0, f1, f2, f3]
theorem BlkV.set1 {W : World} {B : Nat} {k n d x : Int} {s : ByteArray} (h : BlkV W B k n d s) : BlkV (W.setCell ⟨B, 1, none⟩ (.int .i64 x)) B k x d s := by
  obtain ⟨c0, c1, c2, c3, f0, f1, f2, f3⟩ := h
  constructor <;> simp (maxDischargeDepth := 12) [go_sem, c0, c1, c2, c3, f0, f1, f2, f3]
theorem BlkV.set2 {W : World} {B : Nat} {k n d x : Int} {s : ByteArray} (h : BlkV W B k n d s) : BlkV (W.setCell ⟨B, 2, none⟩ (.int .i64 x)) B k n x s := by
  obtain ⟨c0, c1, c2, c3, f0, f1, f2, f3⟩ := h
  constructor <;> simp (maxDischargeDepth := 12) [go_sem, c0, c1, c2, c3, f0, f1, f2, f3]
theorem BlkV.off {W : World} {B C o : Nat} {k n d : Int} {s : ByteArray} {v : Value} (h : BlkV W B k n d s) (hn : B ≠ C) : BlkV (W.setCell ⟨C, o, none⟩ v) B k n d s := by
  obtain ⟨c0, c1, c2, c3, f0, f1, f2, f3⟩ := h
  constructor <;> simp (maxDischargeDepth := 12) [go_sem, *]

set_option maxRecDepth 100000 in
set_option maxHeartbeats 4000000 in
theorem dp_bad (s T Q : ByteArray) (c : UInt8) (w : World) (h0 : 0 < s.size) (hc : s[0] = c) (h34 : ((c.toNat : Int) == 34) = true)
    (UN : Hid (∀ W : World, Calls Tryz.prog 124 #[.string s] W fun e w' => e = .returned (.string T) ∧ Below W.heap.size W w'))
    (QU : Hid (∀ W : World, Calls Tryz.prog 63 #[.string T] W fun e w' => e = .returned (.string Q) ∧ Below W.heap.size W w')) (hq : (Q.toList == s.toList) = false) :
    Calls Tryz.prog 107 #[.string s] w fun e w' => e = .returned (.tuple #[.agg #[.int .i64 0, .int .i64 0, .int .i64 0, .string ⟨#[]⟩], .int .i64 70]) ∧ Below w.heap.size w w' := by
  have h0' : (0 : Int) < s.size := by omega
  go_enter Tryz.func107, Tryz.ntmps107
  go_wp2_with fail
  refine (UN.out _).mono ?_
  rintro e w1 ⟨rfl, hb1⟩
  have R1 : Hid (BlkV w1 w.heap.size 0 0 0 ⟨#[]⟩) := BlkV.below (by constructor <;> simp (maxDischargeDepth := 12) [go_sem]) hb1 (by simp)
  have B1 : Below w.heap.size w w1 := ((Below.refl _ w).alloc (Nat.le_refl _) _).trans (hb1.mono (by simp))
  have z1 : w.heap.size < w1.heap.size := by have := hb1.size; simp at this; omega
  clear hb1
  go_wp2_with fail
  refine (QU.out _).mono ?_
  rintro e w2 ⟨rfl, hb2⟩
  have R2 : Hid (BlkV w2 w.heap.size 0 0 0 ⟨#[]⟩) := R1.out.below hb2 z1
  have B2 : Below w.heap.size w w2 := B1.trans (hb2.mono B1.size)
  clear hb2 R1 B1 z1
  obtain ⟨r0, r1, r2, r3, r4, r5, r6, r7⟩ := R2.out
  go_wp2
  generalize hW9 : World.setCell _ _ _ = W9
  have b9 : BlkV W9 w.heap.size 0 0 0 ⟨#[]⟩ := by rw [← hW9]; exact R2.out.four
  have hB9 : Below w.heap.size w W9 := by rw [← hW9]; exact (((B2.setCell (by simp) _).setCell (by simp) _).setCell (by simp) _).setCell (by simp) _
  clear hW9
  obtain ⟨x0, x1, x2, x3, -, -, -, -⟩ := b9
  refine bodyPost_ret (by simp [results, Tryz.results107, go_sem, x0, x1, x2, x3]; try rfl) rfl ?_
  exact ⟨rfl, hB9⟩

set_option maxRecDepth 100000 in
set_option maxHeartbeats 4000000 in
theorem dp_long (s T Q : ByteArray) (c : UInt8) (w : World) (h0 : 0 < s.size) (hc : s[0] = c) (h34 : ((c.toNat : Int) == 34) = true)
    (UN : Hid (∀ W : World, Calls Tryz.prog 124 #[.string s] W fun e w' => e = .returned (.string T) ∧ Below W.heap.size W w'))
    (QU : Hid (∀ W : World, Calls Tryz.prog 63 #[.string T] W fun e w' => e = .returned (.string Q) ∧ Below W.heap.size W w')) (hq : Q = s) (hl : 64 < T.size) :
    Calls Tryz.prog 107 #[.string s] w fun e w' => e = .returned (.tuple #[.agg #[.int .i64 0, .int .i64 0, .int .i64 0, .string ⟨#[]⟩], .int .i64 2]) ∧ Below w.heap.size w w' := by
  have h0' : (0 : Int) < s.size := by omega
  subst hq
  have hl2 : (64 : Int) < T.size := by omega
  go_enter Tryz.func107, Tryz.ntmps107
  go_wp2_with fail
  refine (UN.out _).mono ?_
  rintro e w1 ⟨rfl, hb1⟩
  have R1 : Hid (BlkV w1 w.heap.size 0 0 0 ⟨#[]⟩) := BlkV.below (by constructor <;> simp (maxDischargeDepth := 12) [go_sem]) hb1 (by simp)
  have B1 : Below w.heap.size w w1 := ((Below.refl _ w).alloc (Nat.le_refl _) _).trans (hb1.mono (by simp))
  have z1 : w.heap.size < w1.heap.size := by have := hb1.size; simp at this; omega
  clear hb1
  go_wp2_with fail
  refine (QU.out _).mono ?_
  rintro e w2 ⟨rfl, hb2⟩
  have R2 : Hid (BlkV w2 w.heap.size 0 0 0 ⟨#[]⟩) := R1.out.below hb2 z1
  have B2 : Below w.heap.size w w2 := B1.trans (hb2.mono B1.size)
  clear hb2 R1 B1 z1
  obtain ⟨r0, r1, r2, r3, r4, r5, r6, r7⟩ := R2.out
  go_wp2
  generalize hW9 : World.setCell _ _ _ = W9
  have b9 : BlkV W9 w.heap.size 0 0 0 ⟨#[]⟩ := by rw [← hW9]; exact R2.out.four
  have hB9 : Below w.heap.size w W9 := by rw [← hW9]; exact (((B2.setCell (by simp) _).setCell (by simp) _).setCell (by simp) _).setCell (by simp) _
  clear hW9
  obtain ⟨x0, x1, x2, x3, -, -, -, -⟩ := b9
  refine bodyPost_ret (by simp [results, Tryz.results107, go_sem, x0, x1, x2, x3]; try rfl) rfl ?_
  exact ⟨rfl, hB9⟩

set_option maxRecDepth 100000 in
set_option maxHeartbeats 4000000 in
theorem dp_str (s T Q : ByteArray) (c : UInt8) (w : World) (h0 : 0 < s.size) (hc : s[0] = c) (h34 : ((c.toNat : Int) == 34) = true)
    (UN : Hid (∀ W : World, Calls Tryz.prog 124 #[.string s] W fun e w' => e = .returned (.string T) ∧ Below W.heap.size W w'))
    (QU : Hid (∀ W : World, Calls Tryz.prog 63 #[.string T] W fun e w' => e = .returned (.string Q) ∧ Below W.heap.size W w')) (hq : Q = s) (hl : T.size ≤ 64) :
    Calls Tryz.prog 107 #[.string s] w fun e w' => e = .returned (.tuple #[.agg #[.int .i64 3, .int .i64 0, .int .i64 0, .string T], .int .i64 0]) ∧ Below w.heap.size w w' := by
  have h0' : (0 : Int) < s.size := by omega
  subst hq
  have hl2 : (T.size : Int) ≤ 64 := by omega
  go_enter Tryz.func107, Tryz.ntmps107
  go_wp2_with fail
  refine (UN.out _).mono ?_
  rintro e w1 ⟨rfl, hb1⟩
  have R1 : Hid (BlkV w1 w.heap.size 0 0 0 ⟨#[]⟩) := BlkV.below (by constructor <;> simp (maxDischargeDepth := 12) [go_sem]) hb1 (by simp)
  have B1 : Below w.heap.size w w1 := ((Below.refl _ w).alloc (Nat.le_refl _) _).trans (hb1.mono (by simp))
  have z1 : w.heap.size < w1.heap.size := by have := hb1.size; simp at this; omega
  clear hb1
  go_wp2_with fail
  refine (QU.out _).mono ?_
  rintro e w2 ⟨rfl, hb2⟩
  have R2 : Hid (BlkV w2 w.heap.size 0 0 0 ⟨#[]⟩) := R1.out.below hb2 z1
  have B2 : Below w.heap.size w w2 := B1.trans (hb2.mono B1.size)
  clear hb2 R1 B1 z1
  obtain ⟨r0, r1, r2, r3, r4, r5, r6, r7⟩ := R2.out
  go_wp2
  generalize hW9 : World.setCell _ _ _ = W9
  have b9 : BlkV W9 w.heap.size 3 0 0 T := by rw [← hW9]; exact R2.out.four
  have hB9 : Below w.heap.size w W9 := by rw [← hW9]; exact (((B2.setCell (by simp) _).setCell (by simp) _).setCell (by simp) _).setCell (by simp) _
  clear hW9
  obtain ⟨x0, x1, x2, x3, -, -, -, -⟩ := b9
  refine bodyPost_ret (by simp [results, Tryz.results107, go_sem, x0, x1, x2, x3]; try rfl) rfl ?_
  exact ⟨rfl, hB9⟩

set_option maxRecDepth 100000 in
set_option maxHeartbeats 8000000 in
theorem dp_int_not (s T A B : ByteArray) (n a b C : Int) (m : Nat) (w : World) (hs : s.size ≤ 140737488355328) (hp : s.size = 0 ∨ ∃ (h0 : 0 < s.size), s[0].toNat ≠ 34)
    (NS : Hid (∀ W : World, Calls Tryz.prog 125 #[.string s] W fun e w' => e = .returned (.int .i64 n) ∧ Below W.heap.size W w'))
    (hno : ∀ j (h : j < s.size), s[j].toNat ≠ 47)
    (PR : Hid (∀ W : World, Calls Tryz.prog 46 #[.agg #[.int .i64 1, .int .i64 n, .int .i64 0, .string ⟨#[]⟩]] W fun e w' => e = .returned (.tuple #[.string T, .int .i64 C]) ∧ Below W.heap.size W w')) (hC : C = 0) (hT : (T.toList == s.toList) = false) :
    Calls Tryz.prog 107 #[.string s] w fun e w' => e = .returned (.tuple #[.agg #[.int .i64 0, .int .i64 0, .int .i64 0, .string ⟨#[]⟩], .int .i64 70]) ∧ Below w.heap.size w w' := by
  subst hC
  have HN : Hid (∀ j (h : j < s.size), s[j].toNat ≠ 47) := hno
  clear hno
  have hp' : ((0 < (s.size : Int)) = False ∧ (0 < s.size) = False) ∨ (∃ (h0 : 0 < s.size) (c : UInt8), s[0] = c ∧ ((c.toNat : Int) == 34) = false ∧ (0 : Int) < s.size) := by
    rcases hp with hp | ⟨h0, hp⟩
    · left; exact ⟨eq_false (by omega), eq_false (by omega)⟩
    · right; exact ⟨h0, s[0], rfl, by simp; omega, by omega⟩
  clear hp
  rcases hp' with ⟨q0, q0n⟩ | ⟨h0, c0, hc0, q1, q0⟩
  all_goals
    go_enter Tryz.func107, Tryz.ntmps107
    go_wp2_with fail
    refine (NS.out _).mono ?_
    rintro e w1 ⟨rfl, hb1⟩
    have R1 : Hid (BlkV w1 w.heap.size 0 0 0 ⟨#[]⟩) := BlkV.below (by constructor <;> simp (maxDischargeDepth := 12) [go_sem]) hb1 (by first | (simp; done) | (simp; omega))
    have V1 : Hid (BlkV w1 (w.heap.size + 1) 1 0 0 ⟨#[]⟩) := BlkV.below (by constructor <;> simp (maxDischargeDepth := 12) [go_sem]) hb1 (by simp)
    have B1 : Below w.heap.size w w1 := (((Below.refl _ w).alloc (Nat.le_refl _) _).alloc (by simp) _).trans (hb1.mono (by simp; omega))
    have z1 : w.heap.size + 1 < w1.heap.size := by have := hb1.size; simp at this; omega
    clear hb1
    obtain ⟨v0, v1, v2, v3, v4, v5, v6, v7⟩ := V1.out
    go_upto_region 11 with fail
    refine wp_world ?_
    intro W2 hW2
    have R2 : Hid (BlkV W2 w.heap.size 0 0 0 ⟨#[]⟩) := by rw [hW2]; exact R1.out.off (by omega)
    have V2 : Hid (BlkV W2 (w.heap.size + 1) 1 n 0 ⟨#[]⟩) := by rw [hW2]; exact V1.out.set1
    have B2 : Below w.heap.size w W2 := by rw [hW2]; exact B1.setCell (by simp) _
    have z2 : w.heap.size + 1 < W2.heap.size := by rw [hW2]; simpa using z1
    clear hW2 R1 V1 B1 z1 v0 v1 v2 v3 v4 v5 v6 v7
    go_wp2
    go_loopw [7] (fun i wr => ∃ k : Nat, k ≤ s.size ∧ i = .int .i64 k ∧ wr = W2) (fun i _ => s.size - (intOf i).toNat)
    case atStart => exact ⟨0, by omega, rfl, rfl⟩
    case round =>
      obtain ⟨k, hk, rfl, rfl⟩ := hrel
      by_cases hke : k = s.size
      · subst hke
        obtain ⟨v0, v1, v2, v3, -, -, -, -⟩ := V2.out
        go_wp2_with fail
        refine (PR.out _).mono ?_
        rintro e w5 ⟨rfl, hb5⟩
        have R5 : Hid (BlkV w5 w.heap.size 0 0 0 ⟨#[]⟩) := R2.out.below hb5 (by omega)
        have V5 : Hid (BlkV w5 (w.heap.size + 1) 1 n 0 ⟨#[]⟩) := V2.out.below hb5 z2
        have B5 : Below w.heap.size w w5 := B2.trans (hb5.mono B2.size)
        clear hb5 v0 v1 v2 v3
        obtain ⟨v0, v1, v2, v3, -, -, -, -⟩ := V5.out
        obtain ⟨r0, r1, r2, r3, r4, r5, r6, r7⟩ := R5.out
        go_wp2
        generalize hW9 : World.setCell _ _ _ = W9
        have b9 : BlkV W9 w.heap.size 0 0 0 ⟨#[]⟩ := by rw [← hW9]; exact R5.out.four
        have hB9 : Below w.heap.size w W9 := by rw [← hW9]; exact (((B5.setCell (by simp) _).setCell (by simp) _).setCell (by simp) _).setCell (by simp) _
        clear hW9
        obtain ⟨x0, x1, x2, x3, -, -, -, -⟩ := b9
        refine bodyPost_ret (by simp [results, Tryz.results107, go_sem, x0, x1, x2, x3]; try rfl) rfl ?_
        exact ⟨rfl, hB9⟩
      · have hk' : (k : Int) < s.size := by omega
        have hkk : k < s.size := by omega
        have hne := HN.out k (by omega)
        obtain ⟨c, hc⟩ : ∃ c : UInt8, s[k] = c := ⟨_, rfl⟩
        rw [hc] at hne
        have q2 : ((c.toNat : Int) == 47) = false := by simp; omega
        clear hne
        go_wp2
        exact ⟨⟨k + 1, by omega, by simp, by first | rfl | trivial⟩, by simp [intOf]; omega⟩
    
set_option maxRecDepth 100000 in
set_option maxHeartbeats 8000000 in
theorem dp_int_yes (s T A B : ByteArray) (n a b C : Int) (m : Nat) (w : World) (hs : s.size ≤ 140737488355328) (hp : s.size = 0 ∨ ∃ (h0 : 0 < s.size), s[0].toNat ≠ 34)
    (NS : Hid (∀ W : World, Calls Tryz.prog 125 #[.string s] W fun e w' => e = .returned (.int .i64 n) ∧ Below W.heap.size W w'))
    (hno : ∀ j (h : j < s.size), s[j].toNat ≠ 47)
    (PR : Hid (∀ W : World, Calls Tryz.prog 46 #[.agg #[.int .i64 1, .int .i64 n, .int .i64 0, .string ⟨#[]⟩]] W fun e w' => e = .returned (.tuple #[.string T, .int .i64 C]) ∧ Below W.heap.size W w')) (hC : C = 0) (hT : s = T) :
    Calls Tryz.prog 107 #[.string s] w fun e w' => e = .returned (.tuple #[.agg #[.int .i64 1, .int .i64 n, .int .i64 0, .string ⟨#[]⟩], .int .i64 0]) ∧ Below w.heap.size w w' := by
  subst hC
  subst hT
  have HN : Hid (∀ j (h : j < s.size), s[j].toNat ≠ 47) := hno
  clear hno
  have hp' : ((0 < (s.size : Int)) = False ∧ (0 < s.size) = False) ∨ (∃ (h0 : 0 < s.size) (c : UInt8), s[0] = c ∧ ((c.toNat : Int) == 34) = false ∧ (0 : Int) < s.size) := by
    rcases hp with hp | ⟨h0, hp⟩
    · left; exact ⟨eq_false (by omega), eq_false (by omega)⟩
    · right; exact ⟨h0, s[0], rfl, by simp; omega, by omega⟩
  clear hp
  rcases hp' with ⟨q0, q0n⟩ | ⟨h0, c0, hc0, q1, q0⟩
  all_goals
    go_enter Tryz.func107, Tryz.ntmps107
    go_wp2_with fail
    refine (NS.out _).mono ?_
    rintro e w1 ⟨rfl, hb1⟩
    have R1 : Hid (BlkV w1 w.heap.size 0 0 0 ⟨#[]⟩) := BlkV.below (by constructor <;> simp (maxDischargeDepth := 12) [go_sem]) hb1 (by first | (simp; done) | (simp; omega))
    have V1 : Hid (BlkV w1 (w.heap.size + 1) 1 0 0 ⟨#[]⟩) := BlkV.below (by constructor <;> simp (maxDischargeDepth := 12) [go_sem]) hb1 (by simp)
    have B1 : Below w.heap.size w w1 := (((Below.refl _ w).alloc (Nat.le_refl _) _).alloc (by simp) _).trans (hb1.mono (by simp; omega))
    have z1 : w.heap.size + 1 < w1.heap.size := by have := hb1.size; simp at this; omega
    clear hb1
    obtain ⟨v0, v1, v2, v3, v4, v5, v6, v7⟩ := V1.out
    go_upto_region 11 with fail
    refine wp_world ?_
    intro W2 hW2
    have R2 : Hid (BlkV W2 w.heap.size 0 0 0 ⟨#[]⟩) := by rw [hW2]; exact R1.out.off (by omega)
    have V2 : Hid (BlkV W2 (w.heap.size + 1) 1 n 0 ⟨#[]⟩) := by rw [hW2]; exact V1.out.set1
    have B2 : Below w.heap.size w W2 := by rw [hW2]; exact B1.setCell (by simp) _
    have z2 : w.heap.size + 1 < W2.heap.size := by rw [hW2]; simpa using z1
    clear hW2 R1 V1 B1 z1 v0 v1 v2 v3 v4 v5 v6 v7
    go_wp2
    go_loopw [7] (fun i wr => ∃ k : Nat, k ≤ s.size ∧ i = .int .i64 k ∧ wr = W2) (fun i _ => s.size - (intOf i).toNat)
    case atStart => exact ⟨0, by omega, rfl, rfl⟩
    case round =>
      obtain ⟨k, hk, rfl, rfl⟩ := hrel
      by_cases hke : k = s.size
      · subst hke
        obtain ⟨v0, v1, v2, v3, -, -, -, -⟩ := V2.out
        go_wp2_with fail
        refine (PR.out _).mono ?_
        rintro e w5 ⟨rfl, hb5⟩
        have R5 : Hid (BlkV w5 w.heap.size 0 0 0 ⟨#[]⟩) := R2.out.below hb5 (by omega)
        have V5 : Hid (BlkV w5 (w.heap.size + 1) 1 n 0 ⟨#[]⟩) := V2.out.below hb5 z2
        have B5 : Below w.heap.size w w5 := B2.trans (hb5.mono B2.size)
        clear hb5 v0 v1 v2 v3
        obtain ⟨v0, v1, v2, v3, -, -, -, -⟩ := V5.out
        obtain ⟨r0, r1, r2, r3, r4, r5, r6, r7⟩ := R5.out
        go_wp2
        generalize hW9 : World.setCell _ _ _ = W9
        have b9 : BlkV W9 w.heap.size 1 n 0 ⟨#[]⟩ := by rw [← hW9]; exact R5.out.four
        have hB9 : Below w.heap.size w W9 := by rw [← hW9]; exact (((B5.setCell (by simp) _).setCell (by simp) _).setCell (by simp) _).setCell (by simp) _
        clear hW9
        obtain ⟨x0, x1, x2, x3, -, -, -, -⟩ := b9
        refine bodyPost_ret (by simp [results, Tryz.results107, go_sem, x0, x1, x2, x3]; try rfl) rfl ?_
        exact ⟨rfl, hB9⟩
      · have hk' : (k : Int) < s.size := by omega
        have hkk : k < s.size := by omega
        have hne := HN.out k (by omega)
        obtain ⟨c, hc⟩ : ∃ c : UInt8, s[k] = c := ⟨_, rfl⟩
        rw [hc] at hne
        have q2 : ((c.toNat : Int) == 47) = false := by simp; omega
        clear hne
        go_wp2
        exact ⟨⟨k + 1, by omega, by simp, by first | rfl | trivial⟩, by simp [intOf]; omega⟩
    
set_option maxRecDepth 100000 in
set_option maxHeartbeats 8000000 in
theorem dp_rat_err (s T A B : ByteArray) (n a b C : Int) (m : Nat) (w : World) (hs : s.size ≤ 140737488355328) (hp : s.size = 0 ∨ ∃ (h0 : 0 < s.size), s[0].toNat ≠ 34)
    (NS : Hid (∀ W : World, Calls Tryz.prog 125 #[.string s] W fun e w' => e = .returned (.int .i64 n) ∧ Below W.heap.size W w'))
    (NA : Hid (∀ W : World, Calls Tryz.prog 125 #[.string A] W fun e w' => e = .returned (.int .i64 a) ∧ Below W.heap.size W w'))
    (NB : Hid (∀ W : World, Calls Tryz.prog 125 #[.string B] W fun e w' => e = .returned (.int .i64 b) ∧ Below W.heap.size W w'))
    (xA : s.extract 0 m = A) (xB : s.extract (m + 1) s.size = B) (hm : m < s.size) (hfm : s[m].toNat = 47) (hno : ∀ j (h : j < m), s[j].toNat ≠ 47)
    (PR : Hid (∀ W : World, Calls Tryz.prog 46 #[.agg #[.int .i64 2, .int .i64 a, .int .i64 b, .string ⟨#[]⟩]] W fun e w' => e = .returned (.tuple #[.string T, .int .i64 C]) ∧ Below W.heap.size W w')) (hC : (C != 0) = true) :
    Calls Tryz.prog 107 #[.string s] w fun e w' => e = .returned (.tuple #[.agg #[.int .i64 0, .int .i64 0, .int .i64 0, .string ⟨#[]⟩], .int .i64 70]) ∧ Below w.heap.size w w' := by
  have HN : Hid (∀ j (h : j < m), s[j].toNat ≠ 47) := hno
  clear hno
  have h0 : 0 < s.size := by omega
  have q0 : (0 : Int) < s.size := by omega
  obtain ⟨c0, hc0⟩ : ∃ c : UInt8, s[0] = c := ⟨_, rfl⟩
  have q1 : ((c0.toNat : Int) == 34) = false := by
    rcases hp with hp | ⟨_, hp⟩
    · omega
    · rw [hc0] at hp; simp; omega
  clear hp
  go_enter Tryz.func107, Tryz.ntmps107
  go_wp2_with fail
  refine (NS.out _).mono ?_
  rintro e w1 ⟨rfl, hb1⟩
  have R1 : Hid (BlkV w1 w.heap.size 0 0 0 ⟨#[]⟩) := BlkV.below (by constructor <;> simp (maxDischargeDepth := 12) [go_sem]) hb1 (by first | (simp; done) | (simp; omega))
  have V1 : Hid (BlkV w1 (w.heap.size + 1) 1 0 0 ⟨#[]⟩) := BlkV.below (by constructor <;> simp (maxDischargeDepth := 12) [go_sem]) hb1 (by simp)
  have B1 : Below w.heap.size w w1 := (((Below.refl _ w).alloc (Nat.le_refl _) _).alloc (by simp) _).trans (hb1.mono (by simp; omega))
  have z1 : w.heap.size + 1 < w1.heap.size := by have := hb1.size; simp at this; omega
  clear hb1
  obtain ⟨v0, v1, v2, v3, v4, v5, v6, v7⟩ := V1.out
  go_upto_region 11 with fail
  refine wp_world ?_
  intro W2 hW2
  have R2 : Hid (BlkV W2 w.heap.size 0 0 0 ⟨#[]⟩) := by rw [hW2]; exact R1.out.off (by omega)
  have V2 : Hid (BlkV W2 (w.heap.size + 1) 1 n 0 ⟨#[]⟩) := by rw [hW2]; exact V1.out.set1
  have B2 : Below w.heap.size w W2 := by rw [hW2]; exact B1.setCell (by simp) _
  have z2 : w.heap.size + 1 < W2.heap.size := by rw [hW2]; simpa using z1
  clear hW2 R1 V1 B1 z1 v0 v1 v2 v3 v4 v5 v6 v7
  go_wp2
  go_loopw [7] (fun i wr => ∃ k : Nat, k ≤ m ∧ i = .int .i64 k ∧ wr = W2) (fun i _ => m - (intOf i).toNat)
  case atStart => exact ⟨0, by omega, rfl, rfl⟩
  case round =>
    obtain ⟨k, hk, rfl, rfl⟩ := hrel
    by_cases hke : k = m
    · subst hke
      have hk' : (k : Int) < s.size := by omega
      have hk1 : (k : Int) + 1 ≤ s.size := by omega
      have hk2 : (k : Int) ≤ s.size := by omega
      obtain ⟨c, hc⟩ : ∃ c : UInt8, s[k] = c := ⟨_, rfl⟩
      rw [hc] at hfm
      have q2 : ((c.toNat : Int) == 47) = true := by simp; omega
      clear hfm
      obtain ⟨v0, v1, v2, v3, v4, v5, v6, v7⟩ := V2.out
      go_upto_region 16 with fail
      refine wp_world ?_
      intro W3 hW3
      have R3 : Hid (BlkV W3 w.heap.size 0 0 0 ⟨#[]⟩) := by rw [hW3]; exact R2.out.off (by omega)
      have V3 : Hid (BlkV W3 (w.heap.size + 1) 2 n 0 ⟨#[]⟩) := by rw [hW3]; exact V2.out.set0
      have B3 : Below w.heap.size w W3 := by rw [hW3]; exact B2.setCell (by simp) _
      have z3 : w.heap.size + 1 < W3.heap.size := by rw [hW3]; simpa using z2
      clear hW3 R2 V2 B2 z2 v0 v1 v2 v3 v4 v5 v6 v7
      go_wp2_with fail
      refine (NA.out _).mono ?_
      rintro e w4 ⟨rfl, hb4⟩
      have R4 : Hid (BlkV w4 w.heap.size 0 0 0 ⟨#[]⟩) := R3.out.below hb4 (by omega)
      have V4 : Hid (BlkV w4 (w.heap.size + 1) 2 n 0 ⟨#[]⟩) := V3.out.below hb4 z3
      have B4 : Below w.heap.size w w4 := B3.trans (hb4.mono B3.size)
      have z4 : w.heap.size + 1 < w4.heap.size := by have := hb4.size; omega
      clear hb4 R3 V3 B3 z3
      obtain ⟨v0, v1, v2, v3, v4, v5, v6, v7⟩ := V4.out
      go_upto_region 17 with fail
      refine wp_world ?_
      intro W5 hW5
      have R5 : Hid (BlkV W5 w.heap.size 0 0 0 ⟨#[]⟩) := by rw [hW5]; exact R4.out.off (by omega)
      have V5 : Hid (BlkV W5 (w.heap.size + 1) 2 a 0 ⟨#[]⟩) := by rw [hW5]; exact V4.out.set1
      have B5 : Below w.heap.size w W5 := by rw [hW5]; exact B4.setCell (by simp) _
      have z5 : w.heap.size + 1 < W5.heap.size := by rw [hW5]; simpa using z4
      clear hW5 R4 V4 B4 z4 v0 v1 v2 v3 v4 v5 v6 v7
      go_wp2_with fail
      refine (NB.out _).mono ?_
      rintro e w6 ⟨rfl, hb6⟩
      have R6 : Hid (BlkV w6 w.heap.size 0 0 0 ⟨#[]⟩) := R5.out.below hb6 (by omega)
      have V6 : Hid (BlkV w6 (w.heap.size + 1) 2 a 0 ⟨#[]⟩) := V5.out.below hb6 z5
      have B6 : Below w.heap.size w w6 := B5.trans (hb6.mono B5.size)
      have z6 : w.heap.size + 1 < w6.heap.size := by have := hb6.size; omega
      clear hb6 R5 V5 B5 z5
      obtain ⟨v0, v1, v2, v3, v4, v5, v6, v7⟩ := V6.out
      go_upto_region 18 with fail
      refine wp_world ?_
      intro W7 hW7
      have R7 : Hid (BlkV W7 w.heap.size 0 0 0 ⟨#[]⟩) := by rw [hW7]; exact R6.out.off (by omega)
      have V7 : Hid (BlkV W7 (w.heap.size + 1) 2 a b ⟨#[]⟩) := by rw [hW7]; exact V6.out.set2
      have B7 : Below w.heap.size w W7 := by rw [hW7]; exact B6.setCell (by simp) _
      have z7 : w.heap.size + 1 < W7.heap.size := by rw [hW7]; simpa using z6
      clear hW7 R6 V6 B6 z6 v0 v1 v2 v3 v4 v5 v6 v7
      obtain ⟨v0, v1, v2, v3, -, -, -, -⟩ := V7.out
      go_wp2_with fail
      refine (PR.out _).mono ?_
      rintro e w5 ⟨rfl, hb5⟩
      have R5 : Hid (BlkV w5 w.heap.size 0 0 0 ⟨#[]⟩) := R7.out.below hb5 (by omega)
      have V5 : Hid (BlkV w5 (w.heap.size + 1) 2 a b ⟨#[]⟩) := V7.out.below hb5 z7
      have B5 : Below w.heap.size w w5 := B7.trans (hb5.mono B7.size)
      clear hb5 v0 v1 v2 v3
      obtain ⟨v0, v1, v2, v3, -, -, -, -⟩ := V5.out
      obtain ⟨r0, r1, r2, r3, r4, r5, r6, r7⟩ := R5.out
      go_wp2
      generalize hW9 : World.setCell _ _ _ = W9
      have b9 : BlkV W9 w.heap.size 0 0 0 ⟨#[]⟩ := by rw [← hW9]; exact R5.out.four
      have hB9 : Below w.heap.size w W9 := by rw [← hW9]; exact (((B5.setCell (by simp) _).setCell (by simp) _).setCell (by simp) _).setCell (by simp) _
      clear hW9
      obtain ⟨x0, x1, x2, x3, -, -, -, -⟩ := b9
      refine bodyPost_ret (by simp [results, Tryz.results107, go_sem, x0, x1, x2, x3]; try rfl) rfl ?_
      exact ⟨rfl, hB9⟩
    · have hk' : (k : Int) < s.size := by omega
      have hkk : k < s.size := by omega
      have hne := HN.out k (by omega)
      obtain ⟨c, hc⟩ : ∃ c : UInt8, s[k] = c := ⟨_, rfl⟩
      rw [hc] at hne
      have q2 : ((c.toNat : Int) == 47) = false := by simp; omega
      clear hne
      go_wp2
      exact ⟨⟨k + 1, by omega, by simp, by first | rfl | trivial⟩, by simp [intOf]; omega⟩
  
set_option maxRecDepth 100000 in
set_option maxHeartbeats 8000000 in
theorem dp_rat_not (s T A B : ByteArray) (n a b C : Int) (m : Nat) (w : World) (hs : s.size ≤ 140737488355328) (hp : s.size = 0 ∨ ∃ (h0 : 0 < s.size), s[0].toNat ≠ 34)
    (NS : Hid (∀ W : World, Calls Tryz.prog 125 #[.string s] W fun e w' => e = .returned (.int .i64 n) ∧ Below W.heap.size W w'))
    (NA : Hid (∀ W : World, Calls Tryz.prog 125 #[.string A] W fun e w' => e = .returned (.int .i64 a) ∧ Below W.heap.size W w'))
    (NB : Hid (∀ W : World, Calls Tryz.prog 125 #[.string B] W fun e w' => e = .returned (.int .i64 b) ∧ Below W.heap.size W w'))
    (xA : s.extract 0 m = A) (xB : s.extract (m + 1) s.size = B) (hm : m < s.size) (hfm : s[m].toNat = 47) (hno : ∀ j (h : j < m), s[j].toNat ≠ 47)
    (PR : Hid (∀ W : World, Calls Tryz.prog 46 #[.agg #[.int .i64 2, .int .i64 a, .int .i64 b, .string ⟨#[]⟩]] W fun e w' => e = .returned (.tuple #[.string T, .int .i64 C]) ∧ Below W.heap.size W w')) (hC : C = 0) (hT : (T.toList == s.toList) = false) :
    Calls Tryz.prog 107 #[.string s] w fun e w' => e = .returned (.tuple #[.agg #[.int .i64 0, .int .i64 0, .int .i64 0, .string ⟨#[]⟩], .int .i64 70]) ∧ Below w.heap.size w w' := by
  subst hC
  have HN : Hid (∀ j (h : j < m), s[j].toNat ≠ 47) := hno
  clear hno
  have h0 : 0 < s.size := by omega
  have q0 : (0 : Int) < s.size := by omega
  obtain ⟨c0, hc0⟩ : ∃ c : UInt8, s[0] = c := ⟨_, rfl⟩
  have q1 : ((c0.toNat : Int) == 34) = false := by
    rcases hp with hp | ⟨_, hp⟩
    · omega
    · rw [hc0] at hp; simp; omega
  clear hp
  go_enter Tryz.func107, Tryz.ntmps107
  go_wp2_with fail
  refine (NS.out _).mono ?_
  rintro e w1 ⟨rfl, hb1⟩
  have R1 : Hid (BlkV w1 w.heap.size 0 0 0 ⟨#[]⟩) := BlkV.below (by constructor <;> simp (maxDischargeDepth := 12) [go_sem]) hb1 (by first | (simp; done) | (simp; omega))
  have V1 : Hid (BlkV w1 (w.heap.size + 1) 1 0 0 ⟨#[]⟩) := BlkV.below (by constructor <;> simp (maxDischargeDepth := 12) [go_sem]) hb1 (by simp)
  have B1 : Below w.heap.size w w1 := (((Below.refl _ w).alloc (Nat.le_refl _) _).alloc (by simp) _).trans (hb1.mono (by simp; omega))
  have z1 : w.heap.size + 1 < w1.heap.size := by have := hb1.size; simp at this; omega
  clear hb1
  obtain ⟨v0, v1, v2, v3, v4, v5, v6, v7⟩ := V1.out
  go_upto_region 11 with fail
  refine wp_world ?_
  intro W2 hW2
  have R2 : Hid (BlkV W2 w.heap.size 0 0 0 ⟨#[]⟩) := by rw [hW2]; exact R1.out.off (by omega)
  have V2 : Hid (BlkV W2 (w.heap.size + 1) 1 n 0 ⟨#[]⟩) := by rw [hW2]; exact V1.out.set1
  have B2 : Below w.heap.size w W2 := by rw [hW2]; exact B1.setCell (by simp) _
  have z2 : w.heap.size + 1 < W2.heap.size := by rw [hW2]; simpa using z1
  clear hW2 R1 V1 B1 z1 v0 v1 v2 v3 v4 v5 v6 v7
  go_wp2
  go_loopw [7] (fun i wr => ∃ k : Nat, k ≤ m ∧ i = .int .i64 k ∧ wr = W2) (fun i _ => m - (intOf i).toNat)
  case atStart => exact ⟨0, by omega, rfl, rfl⟩
  case round =>
    obtain ⟨k, hk, rfl, rfl⟩ := hrel
    by_cases hke : k = m
    · subst hke
      have hk' : (k : Int) < s.size := by omega
      have hk1 : (k : Int) + 1 ≤ s.size := by omega
      have hk2 : (k : Int) ≤ s.size := by omega
      obtain ⟨c, hc⟩ : ∃ c : UInt8, s[k] = c := ⟨_, rfl⟩
      rw [hc] at hfm
      have q2 : ((c.toNat : Int) == 47) = true := by simp; omega
      clear hfm
      obtain ⟨v0, v1, v2, v3, v4, v5, v6, v7⟩ := V2.out
      go_upto_region 16 with fail
      refine wp_world ?_
      intro W3 hW3
      have R3 : Hid (BlkV W3 w.heap.size 0 0 0 ⟨#[]⟩) := by rw [hW3]; exact R2.out.off (by omega)
      have V3 : Hid (BlkV W3 (w.heap.size + 1) 2 n 0 ⟨#[]⟩) := by rw [hW3]; exact V2.out.set0
      have B3 : Below w.heap.size w W3 := by rw [hW3]; exact B2.setCell (by simp) _
      have z3 : w.heap.size + 1 < W3.heap.size := by rw [hW3]; simpa using z2
      clear hW3 R2 V2 B2 z2 v0 v1 v2 v3 v4 v5 v6 v7
      go_wp2_with fail
      refine (NA.out _).mono ?_
      rintro e w4 ⟨rfl, hb4⟩
      have R4 : Hid (BlkV w4 w.heap.size 0 0 0 ⟨#[]⟩) := R3.out.below hb4 (by omega)
      have V4 : Hid (BlkV w4 (w.heap.size + 1) 2 n 0 ⟨#[]⟩) := V3.out.below hb4 z3
      have B4 : Below w.heap.size w w4 := B3.trans (hb4.mono B3.size)
      have z4 : w.heap.size + 1 < w4.heap.size := by have := hb4.size; omega
      clear hb4 R3 V3 B3 z3
      obtain ⟨v0, v1, v2, v3, v4, v5, v6, v7⟩ := V4.out
      go_upto_region 17 with fail
      refine wp_world ?_
      intro W5 hW5
      have R5 : Hid (BlkV W5 w.heap.size 0 0 0 ⟨#[]⟩) := by rw [hW5]; exact R4.out.off (by omega)
      have V5 : Hid (BlkV W5 (w.heap.size + 1) 2 a 0 ⟨#[]⟩) := by rw [hW5]; exact V4.out.set1
      have B5 : Below w.heap.size w W5 := by rw [hW5]; exact B4.setCell (by simp) _
      have z5 : w.heap.size + 1 < W5.heap.size := by rw [hW5]; simpa using z4
      clear hW5 R4 V4 B4 z4 v0 v1 v2 v3 v4 v5 v6 v7
      go_wp2_with fail
      refine (NB.out _).mono ?_
      rintro e w6 ⟨rfl, hb6⟩
      have R6 : Hid (BlkV w6 w.heap.size 0 0 0 ⟨#[]⟩) := R5.out.below hb6 (by omega)
      have V6 : Hid (BlkV w6 (w.heap.size + 1) 2 a 0 ⟨#[]⟩) := V5.out.below hb6 z5
      have B6 : Below w.heap.size w w6 := B5.trans (hb6.mono B5.size)
      have z6 : w.heap.size + 1 < w6.heap.size := by have := hb6.size; omega
      clear hb6 R5 V5 B5 z5
      obtain ⟨v0, v1, v2, v3, v4, v5, v6, v7⟩ := V6.out
      go_upto_region 18 with fail
      refine wp_world ?_
      intro W7 hW7
      have R7 : Hid (BlkV W7 w.heap.size 0 0 0 ⟨#[]⟩) := by rw [hW7]; exact R6.out.off (by omega)
      have V7 : Hid (BlkV W7 (w.heap.size + 1) 2 a b ⟨#[]⟩) := by rw [hW7]; exact V6.out.set2
      have B7 : Below w.heap.size w W7 := by rw [hW7]; exact B6.setCell (by simp) _
      have z7 : w.heap.size + 1 < W7.heap.size := by rw [hW7]; simpa using z6
      clear hW7 R6 V6 B6 z6 v0 v1 v2 v3 v4 v5 v6 v7
      obtain ⟨v0, v1, v2, v3, -, -, -, -⟩ := V7.out
      go_wp2_with fail
      refine (PR.out _).mono ?_
      rintro e w5 ⟨rfl, hb5⟩
      have R5 : Hid (BlkV w5 w.heap.size 0 0 0 ⟨#[]⟩) := R7.out.below hb5 (by omega)
      have V5 : Hid (BlkV w5 (w.heap.size + 1) 2 a b ⟨#[]⟩) := V7.out.below hb5 z7
      have B5 : Below w.heap.size w w5 := B7.trans (hb5.mono B7.size)
      clear hb5 v0 v1 v2 v3
      obtain ⟨v0, v1, v2, v3, -, -, -, -⟩ := V5.out
      obtain ⟨r0, r1, r2, r3, r4, r5, r6, r7⟩ := R5.out
      go_wp2
      generalize hW9 : World.setCell _ _ _ = W9
      have b9 : BlkV W9 w.heap.size 0 0 0 ⟨#[]⟩ := by rw [← hW9]; exact R5.out.four
      have hB9 : Below w.heap.size w W9 := by rw [← hW9]; exact (((B5.setCell (by simp) _).setCell (by simp) _).setCell (by simp) _).setCell (by simp) _
      clear hW9
      obtain ⟨x0, x1, x2, x3, -, -, -, -⟩ := b9
      refine bodyPost_ret (by simp [results, Tryz.results107, go_sem, x0, x1, x2, x3]; try rfl) rfl ?_
      exact ⟨rfl, hB9⟩
    · have hk' : (k : Int) < s.size := by omega
      have hkk : k < s.size := by omega
      have hne := HN.out k (by omega)
      obtain ⟨c, hc⟩ : ∃ c : UInt8, s[k] = c := ⟨_, rfl⟩
      rw [hc] at hne
      have q2 : ((c.toNat : Int) == 47) = false := by simp; omega
      clear hne
      go_wp2
      exact ⟨⟨k + 1, by omega, by simp, by first | rfl | trivial⟩, by simp [intOf]; omega⟩
  
set_option maxRecDepth 100000 in
set_option maxHeartbeats 8000000 in
theorem dp_rat_yes (s T A B : ByteArray) (n a b C : Int) (m : Nat) (w : World) (hs : s.size ≤ 140737488355328) (hp : s.size = 0 ∨ ∃ (h0 : 0 < s.size), s[0].toNat ≠ 34)
    (NS : Hid (∀ W : World, Calls Tryz.prog 125 #[.string s] W fun e w' => e = .returned (.int .i64 n) ∧ Below W.heap.size W w'))
    (NA : Hid (∀ W : World, Calls Tryz.prog 125 #[.string A] W fun e w' => e = .returned (.int .i64 a) ∧ Below W.heap.size W w'))
    (NB : Hid (∀ W : World, Calls Tryz.prog 125 #[.string B] W fun e w' => e = .returned (.int .i64 b) ∧ Below W.heap.size W w'))
    (xA : s.extract 0 m = A) (xB : s.extract (m + 1) s.size = B) (hm : m < s.size) (hfm : s[m].toNat = 47) (hno : ∀ j (h : j < m), s[j].toNat ≠ 47)
    (PR : Hid (∀ W : World, Calls Tryz.prog 46 #[.agg #[.int .i64 2, .int .i64 a, .int .i64 b, .string ⟨#[]⟩]] W fun e w' => e = .returned (.tuple #[.string T, .int .i64 C]) ∧ Below W.heap.size W w')) (hC : C = 0) (hT : s = T) :
    Calls Tryz.prog 107 #[.string s] w fun e w' => e = .returned (.tuple #[.agg #[.int .i64 2, .int .i64 a, .int .i64 b, .string ⟨#[]⟩], .int .i64 0]) ∧ Below w.heap.size w w' := by
  subst hC
  subst hT
  have HN : Hid (∀ j (h : j < m), s[j].toNat ≠ 47) := hno
  clear hno
  have h0 : 0 < s.size := by omega
  have q0 : (0 : Int) < s.size := by omega
  obtain ⟨c0, hc0⟩ : ∃ c : UInt8, s[0] = c := ⟨_, rfl⟩
  have q1 : ((c0.toNat : Int) == 34) = false := by
    rcases hp with hp | ⟨_, hp⟩
    · omega
    · rw [hc0] at hp; simp; omega
  clear hp
  go_enter Tryz.func107, Tryz.ntmps107
  go_wp2_with fail
  refine (NS.out _).mono ?_
  rintro e w1 ⟨rfl, hb1⟩
  have R1 : Hid (BlkV w1 w.heap.size 0 0 0 ⟨#[]⟩) := BlkV.below (by constructor <;> simp (maxDischargeDepth := 12) [go_sem]) hb1 (by first | (simp; done) | (simp; omega))
  have V1 : Hid (BlkV w1 (w.heap.size + 1) 1 0 0 ⟨#[]⟩) := BlkV.below (by constructor <;> simp (maxDischargeDepth := 12) [go_sem]) hb1 (by simp)
  have B1 : Below w.heap.size w w1 := (((Below.refl _ w).alloc (Nat.le_refl _) _).alloc (by simp) _).trans (hb1.mono (by simp; omega))
  have z1 : w.heap.size + 1 < w1.heap.size := by have := hb1.size; simp at this; omega
  clear hb1
  obtain ⟨v0, v1, v2, v3, v4, v5, v6, v7⟩ := V1.out
  go_upto_region 11 with fail
  refine wp_world ?_
  intro W2 hW2
  have R2 : Hid (BlkV W2 w.heap.size 0 0 0 ⟨#[]⟩) := by rw [hW2]; exact R1.out.off (by omega)
  have V2 : Hid (BlkV W2 (w.heap.size + 1) 1 n 0 ⟨#[]⟩) := by rw [hW2]; exact V1.out.set1
  have B2 : Below w.heap.size w W2 := by rw [hW2]; exact B1.setCell (by simp) _
  have z2 : w.heap.size + 1 < W2.heap.size := by rw [hW2]; simpa using z1
  clear hW2 R1 V1 B1 z1 v0 v1 v2 v3 v4 v5 v6 v7
  go_wp2
  go_loopw [7] (fun i wr => ∃ k : Nat, k ≤ m ∧ i = .int .i64 k ∧ wr = W2) (fun i _ => m - (intOf i).toNat)
  case atStart => exact ⟨0, by omega, rfl, rfl⟩
  case round =>
    obtain ⟨k, hk, rfl, rfl⟩ := hrel
    by_cases hke : k = m
    · subst hke
      have hk' : (k : Int) < s.size := by omega
      have hk1 : (k : Int) + 1 ≤ s.size := by omega
      have hk2 : (k : Int) ≤ s.size := by omega
      obtain ⟨c, hc⟩ : ∃ c : UInt8, s[k] = c := ⟨_, rfl⟩
      rw [hc] at hfm
      have q2 : ((c.toNat : Int) == 47) = true := by simp; omega
      clear hfm
      obtain ⟨v0, v1, v2, v3, v4, v5, v6, v7⟩ := V2.out
      go_upto_region 16 with fail
      refine wp_world ?_
      intro W3 hW3
      have R3 : Hid (BlkV W3 w.heap.size 0 0 0 ⟨#[]⟩) := by rw [hW3]; exact R2.out.off (by omega)
      have V3 : Hid (BlkV W3 (w.heap.size + 1) 2 n 0 ⟨#[]⟩) := by rw [hW3]; exact V2.out.set0
      have B3 : Below w.heap.size w W3 := by rw [hW3]; exact B2.setCell (by simp) _
      have z3 : w.heap.size + 1 < W3.heap.size := by rw [hW3]; simpa using z2
      clear hW3 R2 V2 B2 z2 v0 v1 v2 v3 v4 v5 v6 v7
      go_wp2_with fail
      refine (NA.out _).mono ?_
      rintro e w4 ⟨rfl, hb4⟩
      have R4 : Hid (BlkV w4 w.heap.size 0 0 0 ⟨#[]⟩) := R3.out.below hb4 (by omega)
      have V4 : Hid (BlkV w4 (w.heap.size + 1) 2 n 0 ⟨#[]⟩) := V3.out.below hb4 z3
      have B4 : Below w.heap.size w w4 := B3.trans (hb4.mono B3.size)
      have z4 : w.heap.size + 1 < w4.heap.size := by have := hb4.size; omega
      clear hb4 R3 V3 B3 z3
      obtain ⟨v0, v1, v2, v3, v4, v5, v6, v7⟩ := V4.out
      go_upto_region 17 with fail
      refine wp_world ?_
      intro W5 hW5
      have R5 : Hid (BlkV W5 w.heap.size 0 0 0 ⟨#[]⟩) := by rw [hW5]; exact R4.out.off (by omega)
      have V5 : Hid (BlkV W5 (w.heap.size + 1) 2 a 0 ⟨#[]⟩) := by rw [hW5]; exact V4.out.set1
      have B5 : Below w.heap.size w W5 := by rw [hW5]; exact B4.setCell (by simp) _
      have z5 : w.heap.size + 1 < W5.heap.size := by rw [hW5]; simpa using z4
      clear hW5 R4 V4 B4 z4 v0 v1 v2 v3 v4 v5 v6 v7
      go_wp2_with fail
      refine (NB.out _).mono ?_
      rintro e w6 ⟨rfl, hb6⟩
      have R6 : Hid (BlkV w6 w.heap.size 0 0 0 ⟨#[]⟩) := R5.out.below hb6 (by omega)
      have V6 : Hid (BlkV w6 (w.heap.size + 1) 2 a 0 ⟨#[]⟩) := V5.out.below hb6 z5
      have B6 : Below w.heap.size w w6 := B5.trans (hb6.mono B5.size)
      have z6 : w.heap.size + 1 < w6.heap.size := by have := hb6.size; omega
      clear hb6 R5 V5 B5 z5
      obtain ⟨v0, v1, v2, v3, v4, v5, v6, v7⟩ := V6.out
      go_upto_region 18 with fail
      refine wp_world ?_
      intro W7 hW7
      have R7 : Hid (BlkV W7 w.heap.size 0 0 0 ⟨#[]⟩) := by rw [hW7]; exact R6.out.off (by omega)
      have V7 : Hid (BlkV W7 (w.heap.size + 1) 2 a b ⟨#[]⟩) := by rw [hW7]; exact V6.out.set2
      have B7 : Below w.heap.size w W7 := by rw [hW7]; exact B6.setCell (by simp) _
      have z7 : w.heap.size + 1 < W7.heap.size := by rw [hW7]; simpa using z6
      clear hW7 R6 V6 B6 z6 v0 v1 v2 v3 v4 v5 v6 v7
      obtain ⟨v0, v1, v2, v3, -, -, -, -⟩ := V7.out
      go_wp2_with fail
      refine (PR.out _).mono ?_
      rintro e w5 ⟨rfl, hb5⟩
      have R5 : Hid (BlkV w5 w.heap.size 0 0 0 ⟨#[]⟩) := R7.out.below hb5 (by omega)
      have V5 : Hid (BlkV w5 (w.heap.size + 1) 2 a b ⟨#[]⟩) := V7.out.below hb5 z7
      have B5 : Below w.heap.size w w5 := B7.trans (hb5.mono B7.size)
      clear hb5 v0 v1 v2 v3
      obtain ⟨v0, v1, v2, v3, -, -, -, -⟩ := V5.out
      obtain ⟨r0, r1, r2, r3, r4, r5, r6, r7⟩ := R5.out
      go_wp2
      generalize hW9 : World.setCell _ _ _ = W9
      have b9 : BlkV W9 w.heap.size 2 a b ⟨#[]⟩ := by rw [← hW9]; exact R5.out.four
      have hB9 : Below w.heap.size w W9 := by rw [← hW9]; exact (((B5.setCell (by simp) _).setCell (by simp) _).setCell (by simp) _).setCell (by simp) _
      clear hW9
      obtain ⟨x0, x1, x2, x3, -, -, -, -⟩ := b9
      refine bodyPost_ret (by simp [results, Tryz.results107, go_sem, x0, x1, x2, x3]; try rfl) rfl ?_
      exact ⟨rfl, hB9⟩
    · have hk' : (k : Int) < s.size := by omega
      have hkk : k < s.size := by omega
      have hne := HN.out k (by omega)
      obtain ⟨c, hc⟩ : ∃ c : UInt8, s[k] = c := ⟨_, rfl⟩
      rw [hc] at hne
      have q2 : ((c.toNat : Int) == 47) = false := by simp; omega
      clear hne
      go_wp2
      exact ⟨⟨k + 1, by omega, by simp, by first | rfl | trivial⟩, by simp [intOf]; omega⟩
  
end Go.Proofs.YticmebamclacaaaGreatDoor

namespace Go.Proofs.YticmebamclacaaaGreatDoor
open Go.RowKit Go.Shelf
set_option linter.unusedVariables false

theorem gss_str (t : List UInt8) : gss (quoted t) = (⟨3, 0, 0, ⟨t.toArray⟩⟩, true) := by
  have e0 : quoted t = 34 :: (inside t ++ [34]) := by simp [quoted]
  rw [e0]
  unfold gss
  have e1 : Lib.hasPrefix (34 :: (inside t ++ [34])) [34] = true := by simp [Lib.hasPrefix, List.isPrefixOf]
  obtain ⟨e2, e3⟩ := suff_quote (inside t)
  rw [e1]
  simp only [if_true, List.drop_succ_cons, List.drop_zero]
  unfold unqS
  rw [e2, e3]
  simp only [if_true]
  rw [unq_inside]
  rfl
theorem pure3 (S : ByteArray) : pureB 3 0 0 S = true := by simp [pureB]
theorem prs_quoted (t : List UInt8) : prs (quoted t) = if 64 < t.length then (⟨0, 0, 0, ⟨#[]⟩⟩, 2) else (⟨3, 0, 0, ⟨t.toArray⟩⟩, 0) := by
  unfold prs
  rw [gss_str]
  dsimp only
  have e1 : vtext 3 0 0 ⟨t.toArray⟩ = quoted t := by simp [vtext]
  have e2 : (⟨t.toArray⟩ : ByteArray).size = t.length := by show t.toArray.size = _; simp
  rw [if_pos ⟨rfl, pure3 _, e1⟩]
  by_cases h : 64 < t.length
  · have e3 : chk 3 0 0 ⟨t.toArray⟩ = 2 := by simp [chk, pure3, e2, h]
    rw [e3, if_pos h]
    rfl
  · have e3 : chk 3 0 0 ⟨t.toArray⟩ = 0 := by simp [chk, pure3, e2, h]
    rw [e3, if_neg h]
    rfl
theorem prs_bad {l : List UInt8} (hp : Lib.hasPrefix l [34] = true) (h : quoted (dq (l.drop 1)) ≠ l) : prs l = (⟨0, 0, 0, ⟨#[]⟩⟩, 70) := by
  unfold prs
  refine if_neg ?_
  rintro ⟨_, _, g3⟩
  have e0 : gss l = (⟨3, 0, 0, outS (unqS (l.drop 1))⟩, outB (unqS (l.drop 1))) := by simp [gss, hp]
  rw [e0] at g3
  dsimp only at g3
  have e1 : vtext 3 0 0 (outS (unqS (l.drop 1))) = quoted (outS (unqS (l.drop 1))).data.toList := by simp [vtext]
  rw [e1] at g3
  generalize (outS (unqS (l.drop 1))).data.toList = S at g3
  apply h
  rw [← g3]
  have e2 : (quoted S).drop 1 = inside S ++ [34] := by simp [quoted]
  rw [e2, dq_inside]
theorem chk_int (n : Int) : chk 1 n 0 ⟨#[]⟩ = 0 := by simp [chk, pureB, ByteArray.toList_eq]; decide
theorem prs_int {l : List UInt8} (hp : Lib.hasPrefix l [34] = false) (hc : (cutL l).2.2 = false) (h : ¬ (chk 1 (numS l) 0 ⟨#[]⟩ = 0 ∧ vtext 1 (numS l) 0 ⟨#[]⟩ = l)) : prs l = (⟨0, 0, 0, ⟨#[]⟩⟩, 70) := by
  unfold prs
  refine if_neg ?_
  rintro ⟨g1, g2, g3⟩
  have e0 : gss l = (⟨1, (pint l).1, 0, ⟨#[]⟩⟩, (pint l).2) := by simp [gss, hp, hc]
  have hf := pint_fits l
  rw [e0] at g3
  dsimp only at g3
  have e1 : vtext 1 (pint l).1 0 ⟨#[]⟩ = Lib.itoa (pint l).1 := by simp [vtext]
  rw [e1] at g3
  have e2 : numS l = (pint l).1 := by
    have q := numS_itoa hf.1 hf.2
    rw [g3] at q
    exact q
  apply h
  rw [e2]
  exact ⟨chk_int _, e1.trans g3⟩
theorem prs_rat {l : List UInt8} (hp : Lib.hasPrefix l [34] = false) (hc : (cutL l).2.2 = true) (h : ¬ (chk 2 (numS (cutL l).1) (numS (cutL l).2.1) ⟨#[]⟩ = 0 ∧ vtext 2 (numS (cutL l).1) (numS (cutL l).2.1) ⟨#[]⟩ = l)) : prs l = (⟨0, 0, 0, ⟨#[]⟩⟩, 70) := by
  unfold prs
  refine if_neg ?_
  rintro ⟨g1, g2, g3⟩
  cases hk : (pint (cutL l).1).2
  · have e0 : gss l = (⟨1, (pint (cutL l).1).1, 0, ⟨#[]⟩⟩, false) := by simp [gss, hp, hc, hk]
    rw [e0] at g1
    cases g1
  · have e0 : gss l = (⟨2, (pint (cutL l).1).1, (pint (cutL l).2.1).1, ⟨#[]⟩⟩, (pint (cutL l).2.1).2) := by simp [gss, hp, hc, hk]
    have f1 := pint_fits (cutL l).1
    have f2 := pint_fits (cutL l).2.1
    rw [e0] at g2 g3
    dsimp only at g2 g3
    generalize (pint (cutL l).1).1 = n at g2 g3 f1
    generalize (pint (cutL l).2.1).1 = d at g2 g3 f2
    have e1 : vtext 2 n d ⟨#[]⟩ = Lib.itoa n ++ 47 :: Lib.itoa d := by simp [vtext]
    have e2 : cutL l = (Lib.itoa n, Lib.itoa d, true) := by rw [← g3, e1]; exact cutL_some _ _ (itoa_cut n)
    apply h
    rw [e2]
    dsimp only
    rw [numS_itoa f1.1 f1.2, numS_itoa f2.1 f2.2]
    refine ⟨?_, g3⟩
    unfold chk
    rw [g2]
    rfl
theorem prs_good {v : Val} {l : List UInt8} (h : v.may = 0) (f : v.Fits) (e : vtext v.k v.n v.d v.s = l) : prs l = (v, 0) := by rw [← e]; exact prs_text h f

theorem pref_of (s : ByteArray) : Lib.hasPrefix s.data.toList [34] = true → ∃ (h0 : 0 < s.size), s[0] = 34 := by
  intro h
  obtain ⟨⟨l⟩⟩ := s
  match l with
  | [] => simp [Lib.hasPrefix] at h
  | c :: r =>
    simp [Lib.hasPrefix, List.isPrefixOf] at h
    exact ⟨by show 0 < (c :: r).length; simp, h.symm⟩
theorem nopref_of (s : ByteArray) : Lib.hasPrefix s.data.toList [34] = false → s.size = 0 ∨ ∃ (h0 : 0 < s.size), s[0].toNat ≠ 34 := by
  intro h
  obtain ⟨⟨l⟩⟩ := s
  match l with
  | [] => exact Or.inl rfl
  | c :: r =>
    right
    simp [Lib.hasPrefix, List.isPrefixOf] at h
    refine ⟨by show 0 < (c :: r).length; simp, ?_⟩
    show c.toNat ≠ 34
    intro g
    exact h (UInt8.toNat_inj.1 (by rw [g]; rfl))
theorem get_list (s : ByteArray) (j : Nat) (h : j < s.size) : s[j] = s.data.toList[j]'(by simpa using h) := rfl

theorem cutL_notin : ∀ (l : List UInt8), (cutL l).2.2 = false → ∀ c ∈ l, c.toNat ≠ 47
  | [], _, c, hc => by cases hc
  | a :: r, h, c, hc => by
    unfold cutL at h
    by_cases ha : a.toNat = 47
    · rw [if_pos ha] at h; cases h
    · rw [if_neg ha] at h
      rcases List.mem_cons.1 hc with e | e
      · rw [e]; exact ha
      · exact cutL_notin r h c e
theorem cutL_fst : ∀ (l : List UInt8), ∀ c ∈ (cutL l).1, c.toNat ≠ 47
  | [], c, hc => by simp [cutL] at hc
  | a :: r, c, hc => by
    unfold cutL at hc
    by_cases ha : a.toNat = 47
    · rw [if_pos ha] at hc; simp at hc
    · rw [if_neg ha] at hc
      simp only [List.mem_cons] at hc
      rcases hc with e | e
      · rw [e]; exact ha
      · exact cutL_fst r c e

theorem dparse_any (s : ByteArray) (w : World) (hs : s.size ≤ 1048576) :
    Calls Tryz.prog 107 #[.string s] w fun e w' => e = .returned (.tuple #[.agg #[.int .i64 (prs s.data.toList).1.k, .int .i64 (prs s.data.toList).1.n, .int .i64 (prs s.data.toList).1.d, .string (prs s.data.toList).1.s], .int .i64 (prs s.data.toList).2]) ∧ Below w.heap.size w w' := by
  have hl : s.data.toList.length = s.size := by simp
  cases hp : Lib.hasPrefix s.data.toList [34]
  · have hn := nopref_of s hp
    have NS := fun (W : World) => number_any s W (by omega)
    cases hc : (cutL s.data.toList).2.2
    · have hno : ∀ j (h : j < s.size), s[j].toNat ≠ 47 := fun j h => by
        rw [get_list]
        exact cutL_notin _ hc _ (List.getElem_mem _)
      have nf := numS_fits s.data.toList
      have PR := fun (W : World) => dprint_any 1 (numS s.data.toList) 0 ⟨#[]⟩ W nf.1 nf.2 (by decide) (by decide)
      rw [chk_int] at PR
      simp only [if_true] at PR
      by_cases ht : vtext 1 (numS s.data.toList) 0 ⟨#[]⟩ = s.data.toList
      · have e0 : prs s.data.toList = (⟨1, numS s.data.toList, 0, ⟨#[]⟩⟩, 0) := prs_good (v := ⟨1, numS s.data.toList, 0, ⟨#[]⟩⟩) (chk_int _) ⟨nf.1, nf.2, by simp, by simp⟩ ht
        rw [e0]
        exact dp_int_yes s _ ⟨#[]⟩ ⟨#[]⟩ _ 0 0 0 0 w (by omega) hn NS hno PR rfl (ba_eq ht.symm)
      · rw [prs_int hp hc (fun h => ht h.2)]
        exact dp_int_not s _ ⟨#[]⟩ ⟨#[]⟩ _ 0 0 0 0 w (by omega) hn NS hno PR rfl (by simp only [toList_data]; simpa using ht)
    · obtain ⟨h1, _⟩ := cutL_yes _ hc
      have hlen : s.data.toList.length = (cutL s.data.toList).1.length + 1 + (cutL s.data.toList).2.1.length := by
        have := congrArg List.length h1
        rw [List.length_append, List.length_cons] at this
        omega
      have hm : (cutL s.data.toList).1.length < s.size := by omega
      have x1 : s.extract 0 (cutL s.data.toList).1.length = ⟨(cutL s.data.toList).1.toArray⟩ := by
        refine ba_eq ?_
        rw [ext_take s _ (by omega)]
        generalize cutL s.data.toList = c at h1
        rw [h1]
        simp
      have x2 : s.extract ((cutL s.data.toList).1.length + 1) s.size = ⟨(cutL s.data.toList).2.1.toArray⟩ := by
        refine ba_eq ?_
        rw [ext_drop s _ (by omega)]
        generalize cutL s.data.toList = c at h1
        rw [h1, List.drop_append]
        simp
      have hat : ∀ j (h : j < s.size), s[j] = ((cutL s.data.toList).1 ++ 47 :: (cutL s.data.toList).2.1)[j]'(by rw [← h1]; omega) := fun j h => by
        rw [get_list]
        congr 1
      have hfm : s[(cutL s.data.toList).1.length].toNat = 47 := by
        rw [hat _ hm]
        simp
      have hno : ∀ j (h : j < (cutL s.data.toList).1.length), s[j].toNat ≠ 47 := fun j h => by
        rw [hat j (by omega), List.getElem_append_left h]
        exact cutL_fst _ _ (List.getElem_mem _)
      have fa := numS_fits (cutL s.data.toList).1
      have fb := numS_fits (cutL s.data.toList).2.1
      have NA := fun (W : World) => number_any ⟨(cutL s.data.toList).1.toArray⟩ W (by show (cutL s.data.toList).1.toArray.size ≤ _; simp; omega)
      have NB := fun (W : World) => number_any ⟨(cutL s.data.toList).2.1.toArray⟩ W (by show (cutL s.data.toList).2.1.toArray.size ≤ _; simp; omega)
      have PR := fun (W : World) => dprint_any 2 (numS (cutL s.data.toList).1) (numS (cutL s.data.toList).2.1) ⟨#[]⟩ W fa.1 fa.2 fb.1 fb.2
      by_cases hk : chk 2 (numS (cutL s.data.toList).1) (numS (cutL s.data.toList).2.1) ⟨#[]⟩ = 0
      · by_cases ht : vtext 2 (numS (cutL s.data.toList).1) (numS (cutL s.data.toList).2.1) ⟨#[]⟩ = s.data.toList
        · have e0 := prs_good (v := ⟨2, numS (cutL s.data.toList).1, numS (cutL s.data.toList).2.1, ⟨#[]⟩⟩) hk ⟨fa.1, fa.2, fb.1, fb.2⟩ ht
          rw [e0]
          simp only [if_pos hk] at PR
          exact dp_rat_yes s _ _ _ _ _ _ _ _ w (by omega) hn NS NA NB x1 x2 hm hfm hno PR hk (ba_eq ht.symm)
        · rw [prs_rat hp hc (fun h => ht h.2)]
          simp only [if_pos hk] at PR
          exact dp_rat_not s _ _ _ _ _ _ _ _ w (by omega) hn NS NA NB x1 x2 hm hfm hno PR hk (by simp only [toList_data]; simpa using ht)
      · rw [prs_rat hp hc (fun h => hk h.1)]
        exact dp_rat_err s _ _ _ _ _ _ _ _ w (by omega) hn NS NA NB x1 x2 hm hfm hno PR (by simpa using hk)
  · obtain ⟨h0, hc⟩ := pref_of s hp
    have hd := dq_len _ (s.data.toList.drop 1) (Nat.le_refl _)
    have hd2 : (s.data.toList.drop 1).length ≤ s.size := by simp
    have eT : (⟨(dq (s.data.toList.drop 1)).toArray⟩ : ByteArray).size = (dq (s.data.toList.drop 1)).length := by show (dq (s.data.toList.drop 1)).toArray.size = _; simp
    have UN := fun (W : World) => dunq_any s W (by omega)
    have QU := fun (W : World) => dquote_any ⟨(dq (s.data.toList.drop 1)).toArray⟩ W (by omega)
    by_cases hq : quoted (dq (s.data.toList.drop 1)) = s.data.toList
    · have e0 := prs_quoted (dq (s.data.toList.drop 1))
      rw [hq] at e0
      rw [e0]
      by_cases h64 : 64 < (dq (s.data.toList.drop 1)).length
      · rw [if_pos h64]
        exact dp_long s _ _ 34 w h0 hc (by decide) UN QU (ba_eq hq.symm).symm (by omega)
      · rw [if_neg h64]
        exact dp_str s ⟨(dq (s.data.toList.drop 1)).toArray⟩ _ 34 w h0 hc (by decide) UN QU (ba_eq hq.symm).symm (by omega)
    · rw [prs_bad hp hq]
      exact dp_bad s _ _ 34 w h0 hc (by decide) UN QU (by simp only [toList_data]; simpa using hq)

end Go.Proofs.YticmebamclacaaaGreatDoor

namespace Go.Proofs.YticmebamclacaaaGreatDoor
open Go.RowKit Go.Shelf LX
set_option linter.unusedVariables false

/-- What is told of a token at a place. -/
def OneIs (s : ByteArray) (i : Nat) (K at_ k n d : Int) (x S : ByteArray) (ok : Bool) : Prop :=
  (ok = true ↔ fine sdB (s.data.toList.drop i)) ∧ (ok = true → tokAt sdB (s.data.toList.drop i) i = ⟨K.toNat, at_.toNat, x.data.toList, ⟨k, n, d, S⟩⟩ ∧ K = K.toNat ∧ at_ = i ∧ 1 ≤ x.size ∧ i + x.size ≤ s.size)
theorem one_fin (s x : ByteArray) (i K m : Nat) (v : Val) (ok : Bool) (hi : i < s.size) (hb : beh (s.data.toList.drop i) = (K, m)) (hK : K ≠ 0) (hx : x.data.toList = (s.data.toList.drop i).take m) (hsd : (sdB K x.data.toList).2 = ok) (hv : ok = true → (sdB K x.data.toList).1 = v) : OneIs s i K i v.k v.n v.d x v.s ok := by
  have hle := beh_le (s.data.toList.drop i) (by rw [hb]; exact hK)
  rw [hb] at hle
  simp only [List.length_drop] at hle
  have hl : s.data.toList.length = s.size := by simp
  have hxl : x.size = m := by
    have : x.data.toList.length = x.size := by simp
    rw [← this, hx]
    simp
    omega
  refine ⟨?_, fun h => ⟨?_, rfl, rfl, by omega, by omega⟩⟩
  · unfold fine
    rw [hb]
    dsimp only
    rw [← hx, hsd]
    exact ⟨fun h => ⟨hK, h⟩, fun h => h.2⟩
  · unfold tokAt
    rw [hb]
    dsimp only
    rw [← hx, hv h]
    rfl
theorem one_nil (s : ByteArray) (i : Nat) (h : (beh (s.data.toList.drop i)).1 = 0) (K at_ k n d : Int) (x S : ByteArray) : OneIs s i K at_ k n d x S false := by
  refine ⟨⟨fun hh => (by cases hh), fun hf => absurd h hf.1⟩, fun hh => (by cases hh)⟩
theorem u8_of {c : UInt8} {n : UInt8} (h : c.toNat = n.toNat) : c = n := UInt8.toNat_inj.1 h
theorem ext_i (s : ByteArray) (i m : Nat) : (s.extract i (i + m)).data.toList = (s.data.toList.drop i).take m := by rw [ext_mid, Nat.add_sub_cancel_left]
theorem brk_last : ∀ (t : List UInt8) (k : Nat), brk t = some k → ∃ u : List UInt8, t.take k = u ++ [93]
  | [], k, h => by simp [brk] at h
  | c :: t, k, h => by
    simp only [brk] at h
    split at h
    · rename_i hc
      cases h
      exact ⟨[], by simp; exact u8_of hc⟩
    · cases hb : brk t with
      | none => simp [hb] at h
      | some j =>
        simp [hb] at h
        subst h
        obtain ⟨u, hu⟩ := brk_last t j hb
        exact ⟨c :: u, by simp [hu]⟩
theorem num_end (s : ByteArray) (i : Nat) (hi : i < s.size) : i + 1 + run digN (s.data.toList.drop (i + 1)) ≤ s.size := by
  have := run_le digN (s.data.toList.drop (i + 1))
  simp at this
  omega
/-- number at every place: the value of the text from there on, up to where the number ends. -/
theorem rnumber_at (s : ByteArray) (i : Nat) (w : World) (hs : s.size ≤ 16384) (hi : i < s.size) :
    Calls Tryz.prog 84 #[.string s, .int .i64 i] w fun e w' => e = .returned (.tuple #[.agg #[.int .i64 6, .int .i64 i, .string ⟨((s.data.toList.drop i).take (1 + numLen (s.data.toList.drop (i + 1)))).toArray⟩, .int .i64 (prs ((s.data.toList.drop i).take (1 + numLen (s.data.toList.drop (i + 1))))).1.k, .int .i64 (prs ((s.data.toList.drop i).take (1 + numLen (s.data.toList.drop (i + 1))))).1.n, .int .i64 (prs ((s.data.toList.drop i).take (1 + numLen (s.data.toList.drop (i + 1))))).1.d, .string (prs ((s.data.toList.drop i).take (1 + numLen (s.data.toList.drop (i + 1))))).1.s], .bool (decide ((prs ((s.data.toList.drop i).take (1 + numLen (s.data.toList.drop (i + 1))))).2 = 0))]) ∧ Below w.heap.size w w' := by
  have hl : s.data.toList.length = s.size := by simp
  have hle := numLen_le (s.data.toList.drop (i + 1))
  simp only [List.length_drop, hl] at hle
  obtain ⟨N, eN⟩ : ∃ N, numLen (s.data.toList.drop (i + 1)) = N := ⟨_, rfl⟩
  rw [eN] at hle ⊢
  have hex : s.extract i (i + (1 + N)) = ⟨((s.data.toList.drop i).take (1 + N)).toArray⟩ := ba_eq (ext_i s i (1 + N))
  have hsx : (⟨((s.data.toList.drop i).take (1 + N)).toArray⟩ : ByteArray).size ≤ 1048576 := by
    show ((s.data.toList.drop i).take (1 + N)).toArray.size ≤ _
    simp
    omega
  have VA : ∀ W : World, _ := fun W => rvalued ⟨((s.data.toList.drop i).take (1 + N)).toArray⟩ _ i _ _ _ _ W (fun W' => dparse_any _ W' hsx)
  have hD := num_end s i hi
  obtain ⟨R, eR⟩ : ∃ R, run digN (s.data.toList.drop (i + 1)) = R := ⟨_, rfl⟩
  have DI : ∀ W : World, Calls Tryz.prog 89 #[.string s, .int .i64 ((i + 1 : Nat) : Int)] W fun e w' => e = .returned (.int .i64 ((i + 1 + R : Nat) : Int)) ∧ w' = W := fun W => by have q := rdigits_any s (i + 1) W hs (by omega); rw [eR] at q; exact q
  rw [eR] at hD
  unfold numLen at eN
  rw [eR] at eN
  simp only [List.drop_drop] at eN
  by_cases h1 : s.size ≤ i + 1 + R + 1
  · have hno : ¬ (hd (s.data.toList.drop (i + 1 + R)) = 47 ∧ digN (hd (s.data.toList.drop (i + 1 + (R + 1)))) = true) := by
      rintro ⟨-, h⟩
      rw [hd_end s _ (by omega)] at h
      simp [digN] at h
    rw [if_neg hno] at eN
    subst eN
    exact rnum_a s _ _ i (i + 1 + R) 0 _ _ _ _ w hs hi (by omega) hD DI VA (by rw [← hex]; congr 1; omega) h1
  · have h1' : i + 1 + R + 1 < s.size := by omega
    rw [hd_drop s (i + 1 + R) (by omega)] at eN
    have e2 : hd (s.data.toList.drop (i + 1 + (R + 1))) = s[i + 1 + R + 1].toNat := hd_drop s (i + 1 + R + 1) h1'
    rw [e2] at eN
    by_cases h47 : s[i + 1 + R].toNat = 47
    · cases hP : digN s[i + 1 + R + 1].toNat
      · rw [if_neg (by rw [hP]; simp)] at eN
        subst eN
        exact rnum_c s _ _ i (i + 1 + R) 0 _ _ _ _ w hs hi (by omega) hD DI VA (by rw [← hex]; congr 1; omega) h1' h47 hP
      · rw [if_pos ⟨h47, hP⟩] at eN
        have hr2 := run_le digN (s.data.toList.drop (i + 1 + (R + 1)))
        simp at hr2
        exact rnum_d s _ _ i (i + 1 + R) (i + (1 + N)) _ _ _ _ w hs hi (by omega) hD DI VA h1' h47 hP (by omega) (by omega) hex (fun W => by
          have q := rdigits_any s (i + 1 + R + 1) W hs (by omega)
          rw [show i + 1 + R + 1 + run digN (s.data.toList.drop (i + 1 + R + 1)) = i + (1 + N) by rw [← eN]; rw [show i + 1 + (R + 1) = i + 1 + R + 1 by omega]; omega] at q
          exact q)
    · rw [if_neg (fun h => h47 h.1)] at eN
      subst eN
      exact rnum_b s _ _ i (i + 1 + R) 0 _ _ _ _ w hs hi (by omega) hD DI VA (by rw [← hex]; congr 1; omega) h1' h47
theorem sd_plain (K : Nat) (l : List UInt8) (h3 : K ≠ 3) (h5 : K ≠ 5) (h6 : K ≠ 6) (h7 : K ≠ 7) : sdB K l = (zeroV, true) := by
  unfold sdB; rw [if_neg h3, if_neg h5, if_neg h6, if_neg h7]
theorem one_any (s : ByteArray) (i : Nat) (w : World) (hs : s.size ≤ 16384) (hi : i < s.size) :
    Calls Tryz.prog 59 #[.string s, .int .i64 i] w fun e w' => ∃ (K at_ k n d : Int) (x S : ByteArray) (ok : Bool), e = .returned (.tuple #[.agg #[.int .i64 K, .int .i64 at_, .string x, .int .i64 k, .int .i64 n, .int .i64 d, .string S], .bool ok]) ∧ Below w.heap.size w w' ∧ Hid (OneIs s i K at_ k n d x S ok) := by
  have hd0 := drop_at s i hi
  have hl : s.data.toList.length = s.size := by simp
  have t1 : (s.data.toList.drop i).take 1 = [s[i]] := by rw [hd0]; rfl
  have x1 : s.extract i (i + 1) = ⟨#[s[i]]⟩ := ba_eq (by rw [ext_i, t1])
  by_cases h1 : s[i].toNat = 40
  · have e : beh (s.data.toList.drop i) = (1, 1) := by rw [hd0, beh_cons, if_pos h1]
    refine (one_40 s s s i 0 0 0 0 true w hs hi h1).mono ?_
    rintro e w' ⟨rfl, hB⟩
    exact ⟨_, _, _, _, _, _, _, _, rfl, hB, one_fin s ⟨#[40]⟩ i 1 1 zeroV true hi e (by decide) (by rw [t1, u8_of (n := 40) h1]) (by rw [sd_plain] <;> simp) (fun _ => by rw [sd_plain] <;> simp)⟩
  by_cases h2 : s[i].toNat = 41
  · have e : beh (s.data.toList.drop i) = (2, 1) := by rw [hd0, beh_cons, if_neg h1, if_pos h2]
    refine (one_41 s s s i 0 0 0 0 true w hs hi h2).mono ?_
    rintro e w' ⟨rfl, hB⟩
    exact ⟨_, _, _, _, _, _, _, _, rfl, hB, one_fin s ⟨#[41]⟩ i 2 1 zeroV true hi e (by decide) (by rw [t1, u8_of (n := 41) h2]) (by rw [sd_plain] <;> simp) (fun _ => by rw [sd_plain] <;> simp)⟩
  cases hA : lowN s[i].toNat
  · have h3 : ¬ lowN s[i].toNat = true := by rw [hA]; simp
    have sign : ∀ (e : beh (s.data.toList.drop i) = (4, 1)), OneIs s i 4 i zeroV.k zeroV.n zeroV.d (s.extract i (i + 1)) zeroV.s true := fun e => one_fin s _ i 4 1 zeroV true hi e (by decide) (ext_i s i 1) (by rw [sd_plain] <;> simp) (fun _ => by rw [sd_plain] <;> simp)
    cases hD : digN s[i].toNat
    · by_cases h45 : s[i].toNat = 45
      · by_cases hsz : s.size ≤ i + 1
        · have hP : digN (hd (s.data.toList.drop (i + 1))) = false := by rw [hd_end s _ hsz]; rfl
          have e : beh (s.data.toList.drop i) = (4, 1) := by rw [hd0, beh_cons, if_neg h1, if_neg h2, if_neg h3, if_neg (by rw [hD, hP]; simp), if_neg (by omega), if_pos (by omega)]
          refine (one_mia s _ s i 0 0 0 0 true w hs hi hA hD h45 hsz rfl).mono ?_
          rintro e w' ⟨rfl, hB⟩
          exact ⟨_, _, _, _, _, _, _, _, rfl, hB, sign e⟩
        · have hsz' : i + 1 < s.size := by omega
          have eP := hd_drop s (i + 1) hsz'
          cases hP : digN s[i + 1].toNat
          · have e : beh (s.data.toList.drop i) = (4, 1) := by rw [hd0, beh_cons, if_neg h1, if_neg h2, if_neg h3, if_neg (by rw [hD, eP, hP]; simp), if_neg (by omega), if_pos (by omega)]
            refine (one_mib s _ s i 0 0 0 0 true w hs hi hA hD h45 hsz' hP rfl).mono ?_
            rintro e w' ⟨rfl, hB⟩
            exact ⟨_, _, _, _, _, _, _, _, rfl, hB, sign e⟩
          · have e : beh (s.data.toList.drop i) = (6, 1 + numLen (s.data.toList.drop (i + 1))) := by rw [hd0, beh_cons, if_neg h1, if_neg h2, if_neg h3, if_pos (by rw [eP, hP, h45]; simp)]
            refine (one_neg s _ _ i 0 _ _ _ _ w hs hi hA hD h45 hsz' hP (fun W => rnumber_at s i W hs hi)).mono ?_
            rintro e w' ⟨rfl, hB⟩
            exact ⟨_, _, _, _, _, _, _, _, rfl, hB, one_fin s _ i 6 _ _ _ hi e (by decide) rfl rfl (fun _ => rfl)⟩
      · have h4 : ¬ (digN s[i].toNat || (s[i].toNat == 45 && digN (hd (s.data.toList.drop (i + 1))))) = true := by rw [hD]; simp [h45]
        by_cases h60 : s[i].toNat = 60
        · by_cases hsz : s.size ≤ i + 1
          · have e : beh (s.data.toList.drop i) = (4, 1) := by rw [hd0, beh_cons, if_neg h1, if_neg h2, if_neg h3, if_neg h4, if_neg (by rw [hd_end s _ hsz]; omega), if_pos (by omega)]
            refine (one_lta s _ s i 0 0 0 0 true w hs hi hA hD h60 hsz rfl).mono ?_
            rintro e w' ⟨rfl, hB⟩
            exact ⟨_, _, _, _, _, _, _, _, rfl, hB, sign e⟩
          · have hsz' : i + 1 < s.size := by omega
            have eP := hd_drop s (i + 1) hsz'
            by_cases h61 : s[i + 1].toNat = 61
            · have e : beh (s.data.toList.drop i) = (4, 2) := by rw [hd0, beh_cons, if_neg h1, if_neg h2, if_neg h3, if_neg h4, if_pos ⟨h60, by rw [eP]; exact h61⟩]
              have t2 : (s.data.toList.drop i).take 2 = [60, 61] := by
                rw [hd0, drop_at s (i + 1) hsz', u8_of (n := 60) h60, u8_of (n := 61) h61]; rfl
              refine (one_le s s s i 0 0 0 0 true w hs hi hA h60 hsz' h61).mono ?_
              rintro e w' ⟨rfl, hB⟩
              exact ⟨_, _, _, _, _, _, _, _, rfl, hB, one_fin s ⟨#[60, 61]⟩ i 4 2 zeroV true hi e (by decide) (by rw [t2]) (by rw [sd_plain] <;> simp) (fun _ => by rw [sd_plain] <;> simp)⟩
            · have e : beh (s.data.toList.drop i) = (4, 1) := by rw [hd0, beh_cons, if_neg h1, if_neg h2, if_neg h3, if_neg h4, if_neg (by rw [eP]; exact fun x => h61 x.2), if_pos (by omega)]
              refine (one_ltb s _ s i 0 0 0 0 true w hs hi hA hD h60 hsz' h61 rfl).mono ?_
              rintro e w' ⟨rfl, hB⟩
              exact ⟨_, _, _, _, _, _, _, _, rfl, hB, sign e⟩
        have h5 : ¬ (s[i].toNat = 60 ∧ hd (s.data.toList.drop (i + 1)) = 61) := fun x => h60 x.1
        by_cases h61 : s[i].toNat = 61
        · have e : beh (s.data.toList.drop i) = (4, 1) := by rw [hd0, beh_cons, if_neg h1, if_neg h2, if_neg h3, if_neg h4, if_neg h5, if_pos (by omega)]
          refine (one_61 s _ s i 0 0 0 0 true w hs hi hA hD h61 rfl).mono ?_
          rintro e w' ⟨rfl, hB⟩
          exact ⟨_, _, _, _, _, _, _, _, rfl, hB, sign e⟩
        by_cases h43 : s[i].toNat = 43
        · have e : beh (s.data.toList.drop i) = (4, 1) := by rw [hd0, beh_cons, if_neg h1, if_neg h2, if_neg h3, if_neg h4, if_neg h5, if_pos (by omega)]
          refine (one_43 s _ s i 0 0 0 0 true w hs hi hA hD h43 rfl).mono ?_
          rintro e w' ⟨rfl, hB⟩
          exact ⟨_, _, _, _, _, _, _, _, rfl, hB, sign e⟩
        by_cases h42 : s[i].toNat = 42
        · have e : beh (s.data.toList.drop i) = (4, 1) := by rw [hd0, beh_cons, if_neg h1, if_neg h2, if_neg h3, if_neg h4, if_neg h5, if_pos (by omega)]
          refine (one_42 s _ s i 0 0 0 0 true w hs hi hA hD h42 rfl).mono ?_
          rintro e w' ⟨rfl, hB⟩
          exact ⟨_, _, _, _, _, _, _, _, rfl, hB, sign e⟩
        have h6 : ¬ (s[i].toNat = 61 ∨ s[i].toNat = 43 ∨ s[i].toNat = 42 ∨ s[i].toNat = 60 ∨ s[i].toNat = 45) := by omega
        by_cases h91 : s[i].toNat = 91
        · have hq : brk (s.data.toList.drop i) = (brk (s.data.toList.drop (i + 1))).map (· + 1) := by rw [brk_step s i hi, if_neg (by omega)]
          have BR := fun W : World => rbracket_any s i W hs (by omega)
          rw [hq] at BR
          cases hb : brk (s.data.toList.drop (i + 1)) with
          | none =>
            have e : beh (s.data.toList.drop i) = (0, 0) := by rw [hd0, beh_cons, if_neg h1, if_neg h2, if_neg h3, if_neg h4, if_neg h5, if_neg h6, if_pos h91, hb]; rfl
            rw [hb] at BR
            refine (one_91n s s s i 0 0 0 0 true w hs hi hA hD h91 BR).mono ?_
            rintro e w' ⟨rfl, hB⟩
            exact ⟨_, _, _, _, _, _, _, _, rfl, hB, one_nil s i (by rw [e]) _ _ _ _ _ _ _⟩
          | some kk =>
            have e : beh (s.data.toList.drop i) = (5, 1 + kk) := by rw [hd0, beh_cons, if_neg h1, if_neg h2, if_neg h3, if_neg h4, if_neg h5, if_neg h6, if_pos h91, hb]; rfl
            rw [hb] at BR
            obtain ⟨u, hu⟩ := brk_last _ kk hb
            have hkk := brk_le _ kk hb
            simp only [List.length_drop, hl] at hkk
            have hx : (s.extract i (i + (1 + kk))).data.toList = 91 :: (u ++ [93]) := by
              rw [ext_i, hd0, show 1 + kk = kk + 1 by omega, List.take_succ_cons, hu, u8_of (n := 91) h91]
            have hin : ((91 :: (u ++ [93]) : List UInt8).drop 1).take ((91 :: (u ++ [93]) : List UInt8).length - 2) = u := by simp
            have hmi : i + (kk + 1) = i + (1 + kk) := by omega
            refine (one_91s s _ s i (i + (1 + kk)) 0 0 0 (ivB u) w hs hi hA hD h91 (by omega) (by omega) rfl (by rw [← hmi]; exact BR) (fun W => rends_any _ u W (by simp; omega) hx)).mono ?_
            rintro e' w' ⟨rfl, hB⟩
            exact ⟨_, _, _, _, _, _, _, _, rfl, hB, one_fin s _ i 5 (1 + kk) zeroV _ hi e (by decide) (ext_i s i (1 + kk)) (by rw [hx]; show (sdB 5 _).2 = _; unfold sdB; rw [if_neg (by decide), if_pos rfl, hin]) (fun _ => by rw [hx]; unfold sdB; rw [if_neg (by decide), if_pos rfl])⟩
        by_cases h34 : s[i].toNat = 34
        · have QU := fun W : World => rquote_any s i W hs hi
          cases hb : qend false (s.data.toList.drop (i + 1)) with
          | none =>
            have e : beh (s.data.toList.drop i) = (0, 0) := by rw [hd0, beh_cons, if_neg h1, if_neg h2, if_neg h3, if_neg h4, if_neg h5, if_neg h6, if_neg h91, if_pos h34, hb]; rfl
            rw [hb] at QU
            refine (one_34n s s s i 0 0 0 0 true w hs hi hA hD h34 QU).mono ?_
            rintro e w' ⟨rfl, hB⟩
            exact ⟨_, _, _, _, _, _, _, _, rfl, hB, one_nil s i (by rw [e]) _ _ _ _ _ _ _⟩
          | some kk =>
            have e : beh (s.data.toList.drop i) = (6, 1 + kk) := by rw [hd0, beh_cons, if_neg h1, if_neg h2, if_neg h3, if_neg h4, if_neg h5, if_neg h6, if_neg h91, if_pos h34, hb]; rfl
            rw [hb] at QU
            have hkk := qend_le _ _ kk hb
            simp only [List.length_drop, hl] at hkk
            have hmi : i + 1 + kk = i + (1 + kk) := by omega
            refine (one_34s s (s.extract i (i + (1 + kk))) _ i (i + (1 + kk)) _ _ _ _ w hs hi hA hD h34 (by omega) (by omega) rfl (by rw [← hmi]; exact QU) (fun W => rvalued _ _ i _ _ _ _ W (fun W' => dparse_any _ W' (by simp; omega)))).mono ?_
            rintro e' w' ⟨rfl, hB⟩
            exact ⟨_, _, _, _, _, _, _, _, rfl, hB, one_fin s _ i 6 (1 + kk) _ _ hi e (by decide) (ext_i s i (1 + kk)) rfl (fun _ => rfl)⟩
        by_cases h64 : s[i].toNat = 64
        · have e : beh (s.data.toList.drop i) = (7, 1 + run digN (s.data.toList.drop (i + 1))) := by rw [hd0, beh_cons, if_neg h1, if_neg h2, if_neg h3, if_neg h4, if_neg h5, if_neg h6, if_neg h91, if_neg h34, if_pos h64]
          have hD2 := num_end s i hi
          have DI := fun W : World => rdigits_any s (i + 1) W hs (by omega)
          obtain ⟨R, eR⟩ : ∃ R, run digN (s.data.toList.drop (i + 1)) = R := ⟨_, rfl⟩
          rw [eR] at e hD2 DI
          have hmi : i + 1 + R = i + (1 + R) := by omega
          rw [hmi] at DI hD2
          have hS : (s.extract (i + 1) (i + (1 + R))).data.toList = (s.extract i (i + (1 + R))).data.toList.drop 1 := by
            rw [ext_i, ext_mid, hd0, show 1 + R = R + 1 by omega, List.take_succ_cons, List.drop_one, List.tail_cons]
            congr 1
            omega
          obtain ⟨b1, b2⟩ := numR_B (s.extract (i + 1) (i + (1 + R))).data.toList
          refine (one_64 s _ _ i (i + (1 + R)) 0 _ 0 _ w hs hi hA hD h64 (by omega) hD2 rfl rfl DI (fun W => rnumber_any _ _ W)).mono ?_
          rintro e' w' ⟨rfl, hB⟩
          refine ⟨_, _, _, _, _, _, _, _, rfl, hB, one_fin s (s.extract i (i + (1 + R))) i 7 (1 + R) ⟨1, _, 0, ⟨#[]⟩⟩ _ hi e (by decide) (ext_i s i (1 + R)) ?_ ?_⟩
          · rw [b1, hS]; rfl
          · intro h
            rw [b1] at h
            have q := b2 h
            rw [hS] at q h ⊢
            show (numB _).1 = _
            rw [q]
        · have e : beh (s.data.toList.drop i) = (0, 0) := by rw [hd0, beh_cons, if_neg h1, if_neg h2, if_neg h3, if_neg h4, if_neg h5, if_neg h6, if_neg h91, if_neg h34, if_neg h64]
          refine (one_no s s s i 0 0 0 0 true w hs hi hA hD h1 h2 h45 h60 h61 h43 h42 h91 h34 h64).mono ?_
          rintro e w' ⟨rfl, hB⟩
          exact ⟨_, _, _, _, _, _, _, _, rfl, hB, one_nil s i (by rw [e]) _ _ _ _ _ _ _⟩
    · have e : beh (s.data.toList.drop i) = (6, 1 + numLen (s.data.toList.drop (i + 1))) := by rw [hd0, beh_cons, if_neg h1, if_neg h2, if_neg h3, if_pos (by rw [hD]; simp)]
      refine (one_num s _ _ i 0 _ _ _ _ w hs hi hA hD (fun W => rnumber_at s i W hs hi)).mono ?_
      rintro e w' ⟨rfl, hB⟩
      exact ⟨_, _, _, _, _, _, _, _, rfl, hB, one_fin s _ i 6 _ _ _ hi e (by decide) rfl rfl (fun _ => rfl)⟩
  · have e : beh (s.data.toList.drop i) = (3, 1 + run inwN (s.data.toList.drop (i + 1))) := by rw [hd0, beh_cons, if_neg h1, if_neg h2, if_pos hA]
    have WO := fun W : World => rword_any s i W hs (by omega)
    have hrun : run inwN (s.data.toList.drop i) = 1 + run inwN (s.data.toList.drop (i + 1)) := by
      rw [run_size inwN s i hi, if_pos (by unfold inwN; rw [hA]; rfl)]; omega
    rw [hrun] at WO
    have hrl := run_le inwN (s.data.toList.drop (i + 1))
    simp only [List.length_drop, hl] at hrl
    generalize run inwN (s.data.toList.drop (i + 1)) = R at e WO hrl hrun
    refine (one_word s _ s i (i + (1 + R)) 0 0 0 true w hs hi hA (by omega) (by omega) rfl WO).mono ?_
    rintro e' w' ⟨rfl, hB⟩
    refine ⟨_, _, _, _, _, _, _, _, rfl, hB, one_fin s _ i 3 (1 + R) zeroV _ hi e (by decide) (ext_i s i (1 + R)) ?_ (fun _ => by unfold sdB; rw [if_pos rfl])⟩
    have hxl : (s.extract i (i + (1 + R))).data.toList.length = 1 + R := by rw [ext_i]; simp; omega
    unfold sdB
    rw [if_pos rfl, hxl]
    exact decide_eq_decide.mpr (by omega)
end Go.Proofs.YticmebamclacaaaGreatDoor

namespace Go.Proofs.YticmebamclacaaaGreatDoor
open Go.RowKit Go.Shelf LX
set_option linter.unusedVariables false

end Go.Proofs.YticmebamclacaaaGreatDoor

namespace Go.Proofs.YticmebamclacaaaGreatDoor
open Go.RowKit Go.Shelf LX
set_option linter.unusedVariables false

/-- A slice of the document's tokens of the call's own. -/
def OwnR7 (B : Nat) (v : Value) (L : List (Tok Val)) (w : World) : Prop := w.ownsRow B 85 7 v L.length (flatT L)
theorem inR : (Tryz.prog.info? 85).map (fun i => (i.zero, i.size, i.bytes)) = some (some (.agg #[.int .i64 0, .int .i64 0, .string ⟨#[]⟩, .int .i64 0, .int .i64 0, .int .i64 0, .string ⟨#[]⟩]), 7, 72) := by kernel_rfl
theorem cell_same {w w' : World} {b : Nat} (h : w'.heap[b]? = w.heap[b]?) (o : Nat) : w'.cell? ⟨b, o, none⟩ = w.cell? ⟨b, o, none⟩ := by
  unfold World.cell?
  simp [h]
set_option maxRecDepth 100000 in
set_option maxHeartbeats 8000000 in
theorem rtokens_run (s : ByteArray) (w : World) (hs : s.size ≤ 16384) :
    Calls Tryz.prog 42 #[.string s] w fun e w' => Below w.heap.size w w' ∧ ((∃ p : Nat, (T sdB s.data.toList 0).2 = some p ∧ e = .returned (.tuple #[.slice none 0 0, .int .i64 50, .int .i64 p])) ∨ ((T sdB s.data.toList 0).2 = none ∧ ∃ v, e = .returned (.tuple #[v, .int .i64 0, .int .i64 0]) ∧ OwnR7 w.heap.size v (T sdB s.data.toList 0).1 w')) := by
  obtain ⟨i0, hi, hz0, hz1, hz2⟩ := info_parts inR
  have hl : s.data.toList.length = s.size := by simp
  have hsz : ¬ (16384 : Int) < s.size := by omega
  have TK : Hid (∀ (i : Nat) (W : World), i < s.size → Calls Tryz.prog 59 #[.string s, .int .i64 i] W fun e w' => ∃ (K at_ k n d : Int) (x S : ByteArray) (ok : Bool), e = .returned (.tuple #[.agg #[.int .i64 K, .int .i64 at_, .string x, .int .i64 k, .int .i64 n, .int .i64 d, .string S], .bool ok]) ∧ Below W.heap.size W w' ∧ Hid (OneIs s i K at_ k n d x S ok)) := fun i W q1 => one_any s i W hs q1
  go_enter Tryz.func42, Tryz.ntmps42
  go_wp2
  go_loopw [5, 6] (fun v5 v6 wr => ∃ (p : Nat) (L : List (Tok Val)), v6 = .int .i64 p ∧ p ≤ s.size ∧ L.length ≤ p ∧ Below w.heap.size w wr ∧ Hid (OwnR7 w.heap.size v5 L wr) ∧ Hid (Left s.data.toList L p)) (fun _ v6 _ => s.size - (ivR v6).toNat)
  case atStart => exact ⟨0, [], rfl, Nat.zero_le _, Nat.le_refl _, Below.refl _ _, (⟨rfl, .inl ⟨rfl, rfl⟩⟩ : OwnR7 _ _ _ _), (show T sdB _ 0 = _ by simp)⟩
  case round =>
    obtain ⟨p, L, rfl, hp, hLp, hB, hO, hR⟩ := hrel
    by_cases hlt : p < s.size
    · have c1 : (p : Int) < s.size := by omega
      have hdr := drop_at s p hlt
      have hR' : Hid (T sdB s.data.toList 0 = (L ++ (T sdB (s[p] :: s.data.toList.drop (p + 1)) p).1, (T sdB (s[p] :: s.data.toList.drop (p + 1)) p).2)) := by
        have := hR.out
        unfold Left at this
        rw [hdr] at this
        exact this
      clear hR
      by_cases h32 : s[p].toNat = 32
      · have h32' : ((s[p].toNat : Nat) : Int) = 32 := by omega
        have hbk : blk s[p] = true := by simp [blk, h32]
        have hR2 : Hid (Left s.data.toList L (p + 1)) := by
          have := hR'.out
          rw [T_blank sdB _ p hbk] at this
          exact this
        clear hR' hdr
        go_wp2
        exact ⟨⟨p + 1, L, by go_num, by omega, by omega, hB, hO, hR2⟩, by simp [ivR]; omega⟩
      · have h32' : ¬ ((s[p].toNat : Nat) : Int) = 32 := by omega
        have hb32 : ((s[p].toNat : Int) == 32) = false := by simpa using h32'
        by_cases h10 : s[p].toNat = 10
        · have h10' : ((s[p].toNat : Nat) : Int) = 10 := by omega
          have hbk : blk s[p] = true := by simp [blk, h10]
          have hR2 : Hid (Left s.data.toList L (p + 1)) := by
            have := hR'.out
            rw [T_blank sdB _ p hbk] at this
            exact this
          clear hR' hdr
          go_wp2
          exact ⟨⟨p + 1, L, by go_num, by omega, by omega, hB, hO, hR2⟩, by simp [ivR]; omega⟩
        · have h10' : ¬ ((s[p].toNat : Nat) : Int) = 10 := by omega
          have hb10 : ((s[p].toNat : Int) == 10) = false := by simpa using h10'
          have hbk : blk s[p] = false := by simp [blk, h10, h32]
          go_wp2_with fail
          refine (TK.out p wr hlt).mono ?_
          rintro e w1 ⟨K, at_, k, n, d, x, S, ok, rfl, hb1, hk⟩
          have B1 : Below w.heap.size w w1 := hB.trans (hb1.mono hB.size)
          have O1 : Hid (OwnR7 w.heap.size u5 L w1) := own_bel7 hO.out hb1
          have HK2 : Hid (∀ q, u5.ownBlock = some q → q < w1.heap.size) := fun q hq => (World.ownsRow.lt O1.out q hq).2
          clear hO hb1 hB
          go_upto_region 9 with fail
          refine wp_world ?_
          intro W2 hW2
          have R2 : Hid (BlkT W2 w1.heap.size K at_ x k n d S) := by rw [hW2]; constructor <;> simp (maxDischargeDepth := 16) [go_sem]
          have B2 : Below w.heap.size w W2 := by rw [hW2]; exact B1.alloc B1.size _
          have O2 : Hid (OwnR7 w.heap.size u5 L W2) := by rw [hW2]; exact World.ownsRow.alloc O1.out _
          have zz : w1.heap.size < W2.heap.size := by rw [hW2]; simp
          clear hW2 B1 O1
          cases ok
          · have hnf : ¬ fine sdB (s[p] :: s.data.toList.drop (p + 1)) := by
              rw [← hdr]; intro h; have := hk.out.1.2 h; cases this
            have hR2 : Hid ((T sdB s.data.toList 0).2 = some p) := by
              have h := hR'.out
              rw [T_none sdB p hbk hnf] at h
              show _ = _
              rw [h]
            go_wp2
            refine bodyPost_ret (by simp [results, Tryz.results42, go_sem]; try rfl) rfl ?_
            exact ⟨B2, .inl ⟨p, hR2.out, rfl⟩⟩
          · obtain ⟨k1, k2, k3, k4, k5⟩ := hk.out.2 rfl
            have hf : fine sdB (s[p] :: s.data.toList.drop (p + 1)) := by rw [← hdr]; exact hk.out.1.1 rfl
            have hxl : x.data.toList.length = x.size := by simp
            have hbn : (beh (s.data.toList.drop p)).2 = x.size := by
              have h1 : (tokAt sdB (s.data.toList.drop p) p).x.length = (beh (s.data.toList.drop p)).2 := by
                have := beh_le (s.data.toList.drop p) (by rw [hdr]; exact hf.1)
                show ((s.data.toList.drop p).take _).length = _
                simp at this ⊢
                omega
              rw [k1] at h1
              rw [← h1]; exact hxl
            have hR2 : Hid (Left s.data.toList (L ++ [⟨K.toNat, at_.toNat, x.data.toList, ⟨k, n, d, S⟩⟩]) (p + x.size)) := by
              have h := hR'.out
              rw [T_tok sdB p hbk hf, ← hdr, k1, hbn, List.drop_drop] at h
              show T sdB _ 0 = _
              rw [h]
              simp
            have hnews : Hid ([.int .i64 K, .int .i64 at_, .string x, .int .i64 k, .int .i64 n, .int .i64 d, .string S] = tcells ⟨K.toNat, at_.toNat, x.data.toList, ⟨k, n, d, S⟩⟩) := by
              show _ = [Value.int .i64 (K.toNat : Int), .int .i64 (at_.toNat : Int), .string ⟨x.data.toList.toArray⟩, .int .i64 k, .int .i64 n, .int .i64 d, .string S]
              rw [← k2, ← show at_ = at_.toNat by omega]
            clear hk hR' hf hdr hbn k1 k2 k3
            obtain ⟨r0, r1, r2, r3, r4, r5, r6, q0, q1, q2, q3, q4, q5, q6⟩ := R2.out
            have hsz2 := B2.size
            have HK : Hid (∀ q, u5.ownBlock = some q → w.heap.size ≤ q) := fun q hq => (World.ownsRow.lt O2.out q hq).1
            go_wp2_with (at_builtin; refine wpList_append_own _ rfl (.tmp 37) (.tmp 39) 81 rfl w.heap.size 85 i0 (.agg #[.int .i64 0, .int .i64 0, .string ⟨#[]⟩, .int .i64 0, .int .i64 0, .int .i64 0, .string ⟨#[]⟩]) 7 72 Tryz.underlying81 hi hz0 hz1 hz2 rfl (by decide) _ _ _ rfl (World.ownsRow.alloc O2.out _) ⟨W2.heap.size, 0, none⟩ 1 1 [.int .i64 K, .int .i64 at_, .string x, .int .i64 k, .int .i64 n, .int .i64 d, .string S] rfl rfl ?hh1 ?hh2 (by unfold maxLen; omega) (by omega) (by simp; omega) ?grw)
            case hh1 => (intro j u hj; rw [Addr.add_lit]; (rcases j with _ | _ | _ | _ | _ | _ | _ | j) <;> simp at hj <;> subst hj <;> simp (maxDischargeDepth := 12) [go_sem])
            case hh2 => (intro u hu; simp at hu; rcases hu with rfl | rfl | rfl | rfl | rfl | rfl | rfl <;> rfl)
            case grw =>
              intro v' w3 h2 h3 _
              have O3 : Hid (OwnR7 w.heap.size v' (L ++ [⟨K.toNat, at_.toNat, x.data.toList, ⟨k, n, d, S⟩⟩]) w3) := by
                show w3.ownsRow _ _ _ _ _ _
                rw [← flatT_more, ← hnews.out, List.length_append]
                exact h2
              have r2' : w3.cell? ⟨w1.heap.size, 2, none⟩ = some (.string x) := by
                refine (cell_same (h3.block w1.heap.size (by simp; omega) (fun e => ?_)) 2).trans ?_
                · have := HK2.out w1.heap.size e.symm
                  omega
                · exact (((Below.refl W2.heap.size W2).alloc (Nat.le_refl _) _).cell (p := ⟨w1.heap.size, 2, none⟩) zz).trans r2
              have B3 : Below w.heap.size w w3 := Below.grown (B2.alloc hsz2 _) h3 (by simp; omega) HK.out
              clear h2 h3 HK O2 R2 B2 r0 r1 r2 r3 r4 r5 r6 q0 q1 q2 q3 q4 q5 q6 hnews
              have hxs : (x.size : Int) ≤ 16384 := by omega
              go_wp2
              exact ⟨⟨p + x.size, _, by go_num, by omega, by simp; omega, B3, O3, hR2⟩, by simp [ivR]; omega⟩
    · have c1 : ¬ (p : Int) < s.size := by omega
      go_wp2
      refine bodyPost_ret (by simp [results, Tryz.results42, go_sem]; try rfl) rfl ?_
      have hR' := hR.out
      unfold Left at hR'
      rw [List.drop_eq_nil_of_le (by omega), T_nil] at hR'
      refine ⟨hB, .inr ⟨by rw [hR'], _, rfl, ?_⟩⟩
      rw [hR']
      simpa using hO.out
end Go.Proofs.YticmebamclacaaaGreatDoor

namespace Go.Proofs.YticmebamclacaaaGreatDoor
open Go.RowKit LX Go.Shelf
set_option linter.unusedVariables false

theorem OwnR7.at {B : Nat} {v : Value} {L : List (Tok Val)} {w : World} (h : OwnR7 B v L w) : ToksAt w v L := by
  have h' : w.ownsRow B 85 7 v L.length (flatT L) := h
  rcases h'.2 with ⟨rfl, hn⟩ | ⟨g, cap, cur, rfl, hb, hg, hc, hd, he⟩
  · exact ⟨none, 0, by rw [hn], by omega, Or.inl (List.length_eq_zero_iff.1 hn)⟩
  · refine ⟨_, cap, rfl, ?_, Or.inr ⟨g, 0, rfl, (Array.getElem?_eq_some_iff.1 hg).1, fun i hi => ?_⟩⟩
    · omega
    · have k : ∀ j, j < 7 → w.cell? ⟨g, 0 + i * 7 + j, none⟩ = (tcells L[i])[j]? := fun j hj => by
        rw [Nat.zero_add, h'.cellAt _ (by omega)]
        exact flatT_getX L i j hi hj
      exact ⟨k 0 (by omega), k 1 (by omega), k 2 (by omega), k 3 (by omega), k 4 (by omega), k 5 (by omega), k 6 (by omega)⟩

end Go.Proofs.YticmebamclacaaaGreatDoor

namespace Go.Proofs.YticmebamclacaaaGreatDoor
open Go.RowKit LX Go.Shelf
set_option linter.unusedVariables false

theorem beh_fst (c : UInt8) (t : List UInt8) : ((beh (c :: t)).1 = 1 → c.toNat = 40 ∧ (beh (c :: t)).2 = 1) ∧ ((beh (c :: t)).1 = 2 → c.toNat = 41 ∧ (beh (c :: t)).2 = 1) ∧ (lowN c.toNat = true → (beh (c :: t)).1 = 3) := by
  rw [beh_cons]
  by_cases h1 : c.toNat = 40
  · rw [if_pos h1, h1]; simp [lowN]
  by_cases h2 : c.toNat = 41
  · rw [if_neg h1, if_pos h2, h2]; simp [lowN]
  by_cases h3 : lowN c.toNat = true
  · rw [if_neg h1, if_neg h2, if_pos h3]; simp
  rw [if_neg h1, if_neg h2, if_neg h3]
  refine ⟨?_, ?_, fun h => absurd h h3⟩
  all_goals
    split
    · intro h; cases h
    split
    · intro h; cases h
    split
    · intro h; cases h
    split
    · cases brk t <;> (intro h; cases h)
    split
    · cases qend false t <;> (intro h; cases h)
    split
    · intro h; cases h
    · intro h; cases h

/-- What a token's kind and its text have to do with one another. -/
structure Kt (t : Tok Val) : Prop where
  o : t.x = [40] ↔ t.k = 1
  c : t.x = [41] ↔ t.k = 2
  w : nameL t.x = true → t.k = 3
theorem good_kt {t : Tok Val} (h : LX.Good sdB t) : Kt t := by
  have hb := h.b
  have hp := LX.Good.pos sdB h
  match hx : t.x with
  | [] => rw [hx] at hp; simp at hp
  | c :: l =>
    rw [hx] at hb
    obtain ⟨f1, f2, f3⟩ := beh_fst c l
    rw [hb] at f1 f2 f3
    simp only at f1 f2 f3
    refine ⟨⟨fun e => ?_, fun e => ?_⟩, ⟨fun e => ?_, fun e => ?_⟩, fun e => ?_⟩
    · rw [hx] at e; rw [e] at hb; have : beh [40] = (1, 1) := rfl; rw [this] at hb; injection hb with q _; exact q.symm
    · obtain ⟨q1, q2⟩ := f1 e
      have : l = [] := by simpa using q2
      rw [hx, this]
      congr 1
      exact UInt8.toNat_inj.1 q1
    · rw [hx] at e; rw [e] at hb; have : beh [41] = (2, 1) := rfl; rw [this] at hb; injection hb with q _; exact q.symm
    · obtain ⟨q1, q2⟩ := f2 e
      have : l = [] := by simpa using q2
      rw [hx, this]
      congr 1
      exact UInt8.toNat_inj.1 q1
    · refine f3 ?_
      rw [hx] at e
      unfold nameL at e
      simp only [Bool.and_eq_true] at e
      exact e.1.1.2
theorem tks_kt (s : ByteArray) : ∀ t ∈ tks s, Kt t := fun t ht => good_kt (T_good sdB s.data.toList.length s.data.toList (Nat.le_refl _) 0 t ht)

theorem rdEs_nil (f : Nat) (acc : List Evt) : rdEs f acc [] = some acc := by cases f <;> rfl

end Go.Proofs.YticmebamclacaaaGreatDoor

namespace Go.Proofs.YticmebamclacaaaGreatDoor
open Go.RowKit LX Go.Shelf
set_option linter.unusedVariables false

theorem PpOut.mk {N N' : Nat} {w w' : World} {D1 D2 : Int} {D3 : List Evt} {r : Ending} {p : Option Addr} {m c : Nat} (hb : Below N w w') (hm : m = D3.length) (hN : N ≤ N') (ho : OwnE N' (.slice p m c) D3 w') (hr : r = .returned (.tuple #[.agg #[.int .i64 D2, .slice p m c], .int .i64 D1])) : PpOut N w (D1, D2, D3) r w' := by
  subst hm
  exact ⟨hb, p, c, hr, ho.base hN⟩
set_option maxRecDepth 100000 in
set_option maxHeartbeats 2000000 in
theorem parsept_any (s : ByteArray) (w : World) (ht : Pow w) (he : Errs w) (h8 : 9 ≤ w.heap.size) (hg : ErrT w) :
    Calls Tryz.prog 19 #[.string s] w fun r w' => PpOut w.heap.size w (rdP s) r w' := by
  have ct : Hid (∀ W : World, Below w.heap.size w W → Calls Tryz.prog 41 #[.string s] W fun r w' => PtOut W.heap.size W (rdP s) r w') := fun W hW => rdpt_any s W (ht.below hW) (he.below hW h8) (Nat.le_trans h8 hW.size)
  generalize rdP s = D at *
  obtain ⟨D1, D2, D3⟩ := D
  have cn : Hid (∀ W : World, ErrT W → Calls Tryz.prog 24 #[errV D1] W fun r w' => r = .returned (.int .i64 D1) ∧ Below W.heap.size W w') := fun W hW => tnumber_any D1 W hW
  clear ht he h8
  go_enter Tryz.func19, Tryz.ntmps19
  go_wp2_with fail
  refine (ct.out _ (by go_grown)).mono ?_
  rintro r w1 ⟨hb1, p, c, rfl, ho⟩
  dsimp only
  have q0 : w1.cell? ⟨w.heap.size, 0, none⟩ = some (.int .i64 0) := (hb1.cell (p := ⟨w.heap.size, 0, none⟩) (by simp)).trans (by simp [go_sem])
  have q1 : w1.cell? ⟨w.heap.size, 1, none⟩ = some (.slice none 0 0) := (hb1.cell (p := ⟨w.heap.size, 1, none⟩) (by simp)).trans (by simp [go_sem])
  have f0 : w1.frozen? ⟨w.heap.size, 0, none⟩ = false := (hb1.frozen (p := ⟨w.heap.size, 0, none⟩) (by simp)).trans (by simp [go_sem])
  have f1 : w1.frozen? ⟨w.heap.size, 1, none⟩ = false := (hb1.frozen (p := ⟨w.heap.size, 1, none⟩) (by simp)).trans (by simp [go_sem])
  have hs1 : w.heap.size < w1.heap.size := by have := hb1.size; simp at this; omega
  obtain ⟨hB1, -⟩ := bgX (n := w.heap.size) (W0 := w) (by go_grown) (by go_size) hb1
  have HO : Hid (OwnE (w.heap.size + 1) (.slice p D3.length c) D3 w1) := ho.base (by simp)
  clear hb1 ct ho
  obtain ⟨m, em⟩ : ∃ m : Nat, Hid (D3.length = m) := ⟨_, rfl⟩
  have HG : Hid (ErrT w1) := hg.below hB1
  rw [em.out] at HO ⊢
  generalize errV D1 = EV at *
  go_upto_region 2 with fail
  refine wpX_world ?_
  intro W0 hW0
  have d0 : W0.cell? ⟨w1.heap.size, 0, none⟩ = some (.int .i64 D2) := by rw [hW0]; simp [go_sem]
  have d1 : W0.cell? ⟨w1.heap.size, 1, none⟩ = some (.slice p m c) := by rw [hW0]; simp [go_sem]
  have k0 : Below w1.heap.size w1 W0 := by rw [hW0]; go_grown
  have k1 : w1.heap.size < W0.heap.size := by rw [hW0]; simp
  clear hW0
  have Q0 : Hid (∀ W, Below W0.heap.size W0 W → W.cell? ⟨w.heap.size, 0, none⟩ = some (.int .i64 0) ∧ W.cell? ⟨w.heap.size, 1, none⟩ = some (.slice none 0 0) ∧ W.frozen? ⟨w.heap.size, 0, none⟩ = false ∧ W.frozen? ⟨w.heap.size, 1, none⟩ = false ∧ W.cell? ⟨w1.heap.size, 0, none⟩ = some (.int .i64 D2) ∧ W.cell? ⟨w1.heap.size, 1, none⟩ = some (.slice p m c) ∧ Below w.heap.size w W ∧ OwnE (w.heap.size + 1) (.slice p m c) D3 W) := fun W hW => by
    have hx := k0.trans (hW.mono k0.size)
    exact ⟨(hx.cell (p := ⟨w.heap.size, 0, none⟩) hs1).trans q0, (hx.cell (p := ⟨w.heap.size, 1, none⟩) hs1).trans q1, (hx.frozen (p := ⟨w.heap.size, 0, none⟩) hs1).trans f0, (hx.frozen (p := ⟨w.heap.size, 1, none⟩) hs1).trans f1, (hW.cell (p := ⟨w1.heap.size, 0, none⟩) k1).trans d0, (hW.cell (p := ⟨w1.heap.size, 1, none⟩) k1).trans d1, hB1.trans (hx.mono hB1.size), HO.out.below hx⟩
  have HG0 : Hid (ErrT W0) := HG.out.below k0
  go_region_with (go_at_call 24; refine (cn.out _ (HG0.out.below (by go_grown))).mono ?_; rintro e w2 ⟨rfl, hb2⟩; obtain ⟨hB2, -⟩ := bgX (n := W0.heap.size) (W0 := W0) (by go_grown) (by go_size) hb2; clear hb2; obtain ⟨x0, x1, x2, x3, x4, x5, x6, x7⟩ := Q0.out w2 hB2)
  all_goals
    have g0 : ((w2.setCell ⟨w.heap.size, 0, none⟩ (.int .i64 D2)).setCell ⟨w.heap.size, 1, none⟩ (.slice p m c)).cell? ⟨w.heap.size, 0, none⟩ = some (.int .i64 D2) := by simp (maxDischargeDepth := 8) [go_sem, x0]
    have g1 : ((w2.setCell ⟨w.heap.size, 0, none⟩ (.int .i64 D2)).setCell ⟨w.heap.size, 1, none⟩ (.slice p m c)).cell? ⟨w.heap.size, 1, none⟩ = some (.slice p m c) := by simp (maxDischargeDepth := 8) [go_sem, x1]
    have K9 : Below w.heap.size w ((w2.setCell ⟨w.heap.size, 0, none⟩ (.int .i64 D2)).setCell ⟨w.heap.size, 1, none⟩ (.slice p m c)) := (x6.setCell (p := ⟨w.heap.size, 0, none⟩) (Nat.le_refl _) _).setCell (p := ⟨w.heap.size, 1, none⟩) (Nat.le_refl _) _
    have O9 : Hid (OwnE (w.heap.size + 1) (.slice p m c) D3 ((w2.setCell ⟨w.heap.size, 0, none⟩ (.int .i64 D2)).setCell ⟨w.heap.size, 1, none⟩ (.slice p m c))) := own_setE (own_setE x7 (a := ⟨w.heap.size, 0, none⟩) (by simp) _) (a := ⟨w.heap.size, 1, none⟩) (by simp) _
    go_wp2
    generalize (w2.setCell ⟨w.heap.size, 0, none⟩ (.int .i64 D2)).setCell ⟨w.heap.size, 1, none⟩ (.slice p m c) = W9 at g0 g1 K9 O9 ⊢
    refine bodyPost_ret (by simp [results, Tryz.results19, go_sem, g0, g1]; try rfl) rfl ?_
    exact PpOut.mk K9 em.out.symm (by omega) O9.out rfl

end Go.Proofs.YticmebamclacaaaGreatDoor

namespace Go.Proofs.YticmebamclacaaaGreatDoor
open Go.RowKit LX Go.Shelf
set_option linter.unusedVariables false

/-- Texts where they lie. -/
def StrAt (w : World) (v : Value) (vs : List (List UInt8)) : Prop := ∃ b c, v = .slice (some ⟨b, 0, none⟩) vs.length c ∧ b < w.heap.size ∧ ∀ i (h : i < vs.length), w.cell? ⟨b, i, none⟩ = some (.string ⟨vs[i].toArray⟩)
set_option maxRecDepth 100000 in
theorem words_any (w : World) :
    Calls Tryz.prog 51 #[] w fun e w' => e = .returned (.slice (some ⟨w.heap.size, 0, none⟩) 23 23) ∧ Below w.heap.size w w' ∧ StrAt w' (.slice (some ⟨w.heap.size, 0, none⟩) 23 23) resv := by
  go_enter Tryz.func51, Tryz.ntmps51
  go_wp2
  go_ret
  refine ⟨rfl, by go_grown, w.heap.size, 23, rfl, by simp, fun i hi => ?_⟩
  rw [World.cell?_alloc_at _ _ _ _ rfl]
  have hall : ∀ i : Fin 23, (#[.string ⟨#[116, 114, 117, 101]⟩, .string ⟨#[102, 97, 108, 115, 101]⟩, .string ⟨#[110, 111, 116]⟩, .string ⟨#[97, 110, 100]⟩, .string ⟨#[111, 114]⟩, .string ⟨#[101, 120, 105, 115, 116, 115]⟩, .string ⟨#[112, 114, 101, 118]⟩, .string ⟨#[110, 101, 120, 116]⟩, .string ⟨#[111, 110, 99, 101]⟩, .string ⟨#[115, 111, 111, 110]⟩, .string ⟨#[115, 105, 110, 99, 101]⟩, .string ⟨#[117, 110, 116, 105, 108]⟩, .string ⟨#[98, 101, 102, 111, 114, 101]⟩, .string ⟨#[97, 102, 116, 101, 114]⟩, .string ⟨#[97, 103, 103]⟩, .string ⟨#[108, 101, 116]⟩, .string ⟨#[108, 101, 116, 112, 97, 115, 116]⟩, .string ⟨#[106, 111, 105, 110]⟩, .string ⟨#[97, 110, 121]⟩, .string ⟨#[116, 101, 115, 116]⟩, .string ⟨#[97, 108, 116]⟩, .string ⟨#[115, 101, 113]⟩, .string ⟨#[115, 116, 97, 114]⟩] : Array Value)[i.1]? = some (.string ⟨(resv[i.1]'i.2).toArray⟩) := by
    intro i
    match i with
    | ⟨0, _⟩ => rfl
    | ⟨1, _⟩ => rfl
    | ⟨2, _⟩ => rfl
    | ⟨3, _⟩ => rfl
    | ⟨4, _⟩ => rfl
    | ⟨5, _⟩ => rfl
    | ⟨6, _⟩ => rfl
    | ⟨7, _⟩ => rfl
    | ⟨8, _⟩ => rfl
    | ⟨9, _⟩ => rfl
    | ⟨10, _⟩ => rfl
    | ⟨11, _⟩ => rfl
    | ⟨12, _⟩ => rfl
    | ⟨13, _⟩ => rfl
    | ⟨14, _⟩ => rfl
    | ⟨15, _⟩ => rfl
    | ⟨16, _⟩ => rfl
    | ⟨17, _⟩ => rfl
    | ⟨18, _⟩ => rfl
    | ⟨19, _⟩ => rfl
    | ⟨20, _⟩ => rfl
    | ⟨21, _⟩ => rfl
    | ⟨22, _⟩ => rfl
    | ⟨n + 23, h⟩ => exact absurd h (by omega)
  exact hall ⟨i, hi⟩

theorem contains_drop (x : List UInt8) (L : List (List UInt8)) (k : Nat) (h : k < L.length) : (L.drop k).contains x = (L[k] == x || (L.drop (k + 1)).contains x) := by
  rw [List.drop_eq_getElem_cons h, List.contains_cons]
  congr 1
  exact BEq.comm

set_option maxRecDepth 100000 in
set_option maxHeartbeats 1000000 in
theorem rhas_any (V : Value) (L : List (List UInt8)) (x : ByteArray) (w : World) (hV : StrAt w V L) (lL : L.length ≤ 1000000) :
    Calls Tryz.prog 52 #[V, .string x] w fun e w' => e = .returned (.bool (L.contains x.data.toList)) ∧ w' = w := by
  obtain ⟨b, c, rfl, hb, hc⟩ := hV
  have HC : Hid (∀ i (h : i < L.length), w.cell? ⟨b, i, none⟩ = some (.string ⟨L[i].toArray⟩)) := hc
  clear hc
  obtain ⟨n, en⟩ : ∃ n : Nat, Hid (L.length = n) := ⟨_, rfl⟩
  rw [en.out] at lL ⊢
  obtain ⟨R, eR⟩ : ∃ R : Bool, Hid (L.contains x.data.toList = R) := ⟨_, rfl⟩
  rw [eR.out]
  go_enter Tryz.func52, Tryz.ntmps52
  go_wp2
  go_loop [5] (fun i => ∃ k : Nat, k ≤ n ∧ i = .int .i64 k ∧ Hid (R = (L.drop k).contains x.data.toList)) (fun i => n - (intOf i).toNat)
  case atStart => exact ⟨0, Nat.zero_le _, rfl, by rw [List.drop_zero]; exact eR.out.symm⟩
  case round =>
    obtain ⟨k, hk, rfl, hr⟩ := hrel
    by_cases hlt : k < n
    · have kx : k < L.length := by have := en.out; omega
      have a0 := HC.out k kx
      have hr2 : Hid (R = (L[k] == x.data.toList || (L.drop (k + 1)).contains x.data.toList)) := by
        have h := hr.out
        rw [contains_drop _ _ _ kx] at h
        exact h
      have hlt' : (k : Int) < n := by omega
      clear hr
      generalize L[k] = y at a0 hr2
      by_cases hy : y = x.data.toList
      · have hr3 : Hid (R = true) := by unfold Hid; have h := hr2.out; rw [hy] at h; simpa using h
        have hq : ((⟨y.toArray⟩ : ByteArray).toList == x.toList) = true := by rw [ByteArray.toList_eq, ByteArray.toList_eq]; simpa using hy
        generalize (⟨y.toArray⟩ : ByteArray) = Y at a0 hq
        clear hr2 hy
        go_wp2
        go_ret
        exact ⟨retb hr3.out.symm, rfl⟩
      · have hr3 : Hid (R = (L.drop (k + 1)).contains x.data.toList) := by
          have h := hr2.out
          rw [beq_eq_false_iff_ne.mpr hy, Bool.false_or] at h
          exact h
        have hq : ((⟨y.toArray⟩ : ByteArray).toList == x.toList) = false := by rw [ByteArray.toList_eq, ByteArray.toList_eq]; simpa using hy
        generalize (⟨y.toArray⟩ : ByteArray) = Y at a0 hq
        clear hr2 hy
        go_wp2
        exact ⟨⟨k + 1, by omega, by go_num, hr3⟩, by simp [intOf]; omega⟩
    · have c2 : ¬ (k : Int) < n := by omega
      have hr3 : Hid (R = false) := by
        have h := hr.out
        rw [List.drop_eq_nil_of_le (by have := en.out; omega)] at h
        exact h
      go_wp2
      go_ret
      exact ⟨retb hr3.out.symm, rfl⟩

theorem nameL_no (l : List UInt8) (h : inAll l = false) : nameL l = false := by unfold nameL; rw [h, Bool.and_false]
theorem nameL_yes {l : List UInt8} (h1 : 1 ≤ l.length) (h2 : l.length ≤ 16) (h3 : lowN (hd l) = true) (h4 : inAll l = true) : nameL l = !resv.contains l := by
  unfold nameL
  rw [h3, h4, decide_eq_true h1, decide_eq_true h2]
  simp

set_option maxHeartbeats 4000000 in
set_option maxRecDepth 100000 in
theorem rname_any (s : ByteArray) (w : World) :
    Calls Tryz.prog 27 #[.string s] w fun e w' => e = .returned (.bool (nameB s)) ∧ Below w.heap.size w w' := by
  have hl : s.data.toList.length = s.size := by simp
  obtain ⟨R, eR⟩ : ∃ R : Bool, Hid (nameB s = R) := ⟨_, rfl⟩
  rw [eR.out]
  by_cases h0 : s.size = 0
  · have hn : Hid (R = false) := by
      rw [← eR.out]
      have hs : s = ⟨#[]⟩ := of_list (l := []) (List.eq_nil_of_length_eq_zero (by omega))
      rw [hs]
      rfl
    have h0' : (s.size : Int) < 1 := by omega
    go_enter Tryz.func27, Tryz.ntmps27
    go_wp2
    go_ret
    exact ⟨retb hn.out.symm, Below.refl _ _⟩
  have h0' : ¬ (s.size : Int) < 1 := by omega
  by_cases h1 : 16 < s.size
  · have hn : Hid (R = false) := by
      rw [← eR.out]
      unfold Hid nameB
      cases h : nameL s.data.toList with
      | false => rfl
      | true => exact absurd (nameL_len h) (by omega)
    have h1' : (16 : Int) < s.size := by omega
    go_enter Tryz.func27, Tryz.ntmps27
    go_wp2
    go_ret
    exact ⟨retb hn.out.symm, Below.refl _ _⟩
  have h1' : ¬ (16 : Int) < s.size := by omega
  have hp : 0 < s.size := by omega
  have hp' : (0 : Int) < s.size := by omega
  have hh : hd s.data.toList = s[0].toNat := by simpa using hd_drop s 0 hp
  by_cases hb : lowN (hd s.data.toList) = true
  · have hb1 : 97 ≤ s[0].toNat ∧ s[0].toNat ≤ 122 := by rw [hh] at hb; unfold lowN at hb; simpa using hb
    have b1 : ¬ ((s[0].toNat : Nat) : Int) < 97 := by omega
    have b2 : ¬ (122 : Int) < ((s[0].toNat : Nat) : Int) := by omega
    have HY : Hid (inAll s.data.toList = true → R = !resv.contains s.data.toList) := fun h => by rw [← eR.out]; exact nameL_yes (by omega) (by omega) hb h
    have HN : Hid (inAll s.data.toList = false → R = false) := fun h => by rw [← eR.out]; exact nameL_no _ h
    have cW : Hid (∀ W : World, Calls Tryz.prog 51 #[] W fun e w' => e = .returned (.slice (some ⟨W.heap.size, 0, none⟩) 23 23) ∧ Below W.heap.size W w' ∧ StrAt w' (.slice (some ⟨W.heap.size, 0, none⟩) 23 23) resv) := fun W => words_any W
    clear hb hb1 hh eR hl
    go_enter Tryz.func27, Tryz.ntmps27
    go_wp2
    go_loop [3] (fun i => ∃ k : Nat, k ≤ s.size ∧ i = .int .i64 k ∧ Hid (inAll s.data.toList = inAll (s.data.toList.drop k))) (fun i => s.size - (intOf i).toNat)
    case atStart => exact ⟨0, Nat.zero_le _, rfl, by rw [List.drop_zero]; exact (show inAll s.data.toList = inAll s.data.toList from rfl)⟩
    case round =>
      obtain ⟨k, hk, rfl, hrr⟩ := hrel
      by_cases hlt : k < s.size
      · have hd1 : s.data.toList.drop k = s[k] :: s.data.toList.drop (k + 1) := by
          rw [List.drop_eq_getElem_cons (by simpa using hlt)]
          rfl
        have hr2 : Hid (inAll s.data.toList = (inwN s[k].toNat && inAll (s.data.toList.drop (k + 1)))) := by
          have h := hrr.out
          rw [hd1] at h
          exact h
        have hlt' : (k : Int) < s.size := by omega
        have hC := s[k].toNat_lt
        clear hrr hd1
        obtain ⟨c, ec⟩ : ∃ c : Nat, Hid (s[k].toNat = c) := ⟨s[k].toNat, (show _ = _ from rfl)⟩
        rw [ec.out] at hr2 hC
        have ec2 := ec.out
        by_cases hI : inwN c = true
        · have hr3 : Hid (inAll s.data.toList = inAll (s.data.toList.drop (k + 1))) := by
            have h := hr2.out
            rw [hI, Bool.true_and] at h
            exact h
          have hx : (97 ≤ c ∧ c ≤ 122) ∨ ((48 ≤ c ∧ c ≤ 57) ∨ c = 95) := by
            unfold inwN lowN digN at hI
            simp at hI
            omega
          clear hI hr2
          rcases hx with ⟨x1, x2⟩ | ⟨x1, x2⟩ | x3
          · have y1 : ¬ (c : Int) < 97 := by omega
            have y2 : ¬ (122 : Int) < c := by omega
            go_wp2
            exact ⟨⟨k + 1, by omega, by go_num, hr3⟩, by simp [intOf]; omega⟩
          · have y1 : (c : Int) < 97 := by omega
            have y2 : ¬ (c : Int) < 48 := by omega
            have y3 : ¬ (57 : Int) < c := by omega
            go_wp2
            exact ⟨⟨k + 1, by omega, by go_num, hr3⟩, by simp [intOf]; omega⟩
          · subst x3
            go_wp2
            exact ⟨⟨k + 1, by omega, by go_num, hr3⟩, by simp [intOf]; omega⟩
        · have hI' : inwN c = false := by simpa using hI
          have hr3 : Hid (R = false) := HN.out (by have h := hr2.out; rw [hI', Bool.false_and] at h; exact h)
          have hx : (c < 97 ∨ 122 < c) ∧ (c < 48 ∨ 57 < c) ∧ c ≠ 95 := by
            unfold inwN lowN digN at hI'
            simp at hI'
            omega
          have y3 : ((c : Int) == 95) = false := by simp; omega
          clear hI hI' hr2
          obtain ⟨hx1, hx2, -⟩ := hx
          rcases hx1 with x1 | x1
          · have z1 : (c : Int) < 97 := by omega
            rcases hx2 with x2 | x2
            · have z2 : (c : Int) < 48 := by omega
              go_wp2
              go_ret
              exact ⟨retb hr3.out.symm, Below.refl _ _⟩
            · have z2 : ¬ (c : Int) < 48 := by omega
              have z3 : (57 : Int) < c := by omega
              go_wp2
              go_ret
              exact ⟨retb hr3.out.symm, Below.refl _ _⟩
          · have z1 : ¬ (c : Int) < 97 := by omega
            have z1' : (122 : Int) < c := by omega
            have z2 : ¬ (c : Int) < 48 := by omega
            have z3 : (57 : Int) < c := by omega
            go_wp2
            go_ret
            exact ⟨retb hr3.out.symm, Below.refl _ _⟩
      · have hlt' : ¬ (k : Int) < s.size := by omega
        have hr3 : Hid (R = !resv.contains s.data.toList) := HY.out (by
          have h := hrr.out
          rw [List.drop_eq_nil_of_le (by simpa using hlt)] at h
          exact h)
        obtain ⟨Q, eQ⟩ : ∃ Q : Bool, Hid (resv.contains s.data.toList = Q) := ⟨_, rfl⟩
        rw [eQ.out] at hr3
        go_wp2_with fail
        refine (cW.out _).mono ?_
        rintro e w1 ⟨rfl, hB1, hS1⟩
        have cH : Hid (Calls Tryz.prog 52 #[.slice (some ⟨w.heap.size, 0, none⟩) 23 23, .string s] w1 fun e w' => e = .returned (.bool Q) ∧ w' = w1) := by
          have h := rhas_any _ resv s w1 hS1 (by decide)
          rw [eQ.out] at h
          exact h
        clear hS1 cW
        go_wp2_with fail
        refine cH.out.mono ?_
        rintro e w2 ⟨rfl, rfl⟩
        clear cH
        go_wp2
        go_ret
        exact ⟨retb hr3.out.symm, hB1⟩
  · have hb' : lowN (hd s.data.toList) = false := by simpa using hb
    have hn : Hid (R = false) := by rw [← eR.out]; unfold Hid nameB nameL; rw [hb']; simp
    have hb1 : s[0].toNat < 97 ∨ 122 < s[0].toNat := by
      rw [hh] at hb'
      unfold lowN at hb'
      simp at hb'
      omega
    clear hb hb' hh eR hl
    rcases hb1 with x1 | x1
    · have b1 : ((s[0].toNat : Nat) : Int) < 97 := by omega
      go_enter Tryz.func27, Tryz.ntmps27
      go_wp2
      go_ret
      exact ⟨retb hn.out.symm, Below.refl _ _⟩
    · have b1 : ¬ ((s[0].toNat : Nat) : Int) < 97 := by omega
      have b2 : (122 : Int) < ((s[0].toNat : Nat) : Int) := by omega
      go_enter Tryz.func27, Tryz.ntmps27
      go_wp2
      go_ret
      exact ⟨retb hn.out.symm, Below.refl _ _⟩

end Go.Proofs.YticmebamclacaaaGreatDoor

namespace Go.Proofs.YticmebamclacaaaGreatDoor
open Go.RowKit LX Go.Shelf
set_option linter.unusedVariables false

set_option maxRecDepth 100000 in
set_option maxHeartbeats 1000000 in
theorem rfind_any (A : Value) (L : List Dec) (x : ByteArray) (w : World) (hA : SigAt w A L) (lr : L.length ≤ 9223372036854775807) :
    Calls Tryz.prog 28 #[A, .string x] w fun e w' => e = .returned (.int .i64 (findI x L 0)) ∧ w' = w := by
  obtain ⟨p, c, rfl, -, HX0⟩ := hA.form
  have HX : Hid (∀ i (hi : i < L.length), ∃ b off u, p = some ⟨b, off, none⟩ ∧ b < w.heap.size ∧ w.cell? ⟨b, off + i * 2, none⟩ = some (.string L[i].name) ∧ w.cell? ⟨b, off + i * 2 + 1, none⟩ = some u ∧ KAt w u L[i].kinds) := HX0
  obtain ⟨n, en⟩ : ∃ n : Nat, Hid (L.length = n) := ⟨_, rfl⟩
  obtain ⟨I, eI⟩ : ∃ I : Int, Hid (findI x L 0 = I) := ⟨_, rfl⟩
  rw [en.out] at lr ⊢
  rw [eI.out]
  clear hA HX0
  go_enter Tryz.func28, Tryz.ntmps28
  go_wp2
  go_loop [5] (fun i => ∃ k : Nat, k ≤ n ∧ i = .int .i64 k ∧ Hid (I = findI x (L.drop k) k)) (fun i => n - (intOf i).toNat)
  case atStart => exact ⟨0, Nat.zero_le _, rfl, by rw [List.drop_zero]; exact eI.out.symm⟩
  case round =>
    obtain ⟨k, hk, rfl, hr⟩ := hrel
    by_cases hlt : k < n
    · have kx : k < L.length := by have := en.out; omega
      obtain ⟨b, off, u, rfl, hb, r0, r1, r2⟩ := HX.out k kx
      have hr2 : Hid (I = if L[k].name = x then (k : Int) else findI x (L.drop (k + 1)) (k + 1)) := by
        have h := hr.out
        rw [List.drop_eq_getElem_cons kx, findI_cons] at h
        exact h
      have hlt' : (k : Int) < n := by omega
      clear hr r1 r2
      generalize L[k].name = X at r0 hr2
      by_cases hX : X = x
      · have hr3 : Hid (I = k) := by have h := hr2.out; rwa [if_pos hX] at h
        have hq : (X.toList == x.toList) = true := by rw [beq_ba]; exact decide_eq_true hX
        clear hr2 hX
        go_wp2
        go_ret
        exact ⟨reti hr3.out.symm, rfl⟩
      · have hr3 : Hid (I = findI x (L.drop (k + 1)) (k + 1)) := by have h := hr2.out; rwa [if_neg hX] at h
        have hq : (X.toList == x.toList) = false := by rw [beq_ba]; exact decide_eq_false hX
        clear hr2 hX
        go_wp2
        exact ⟨⟨k + 1, by omega, by go_num, hr3⟩, by simp [intOf]; omega⟩
    · have c2 : ¬ (k : Int) < n := by omega
      have hr3 : Hid (I = -1) := by
        have h := hr.out
        rw [List.drop_eq_nil_of_le (by have := en.out; omega)] at h
        exact h
      go_wp2
      go_ret
      exact ⟨reti hr3.out.symm, rfl⟩

end Go.Proofs.YticmebamclacaaaGreatDoor

namespace Go.Proofs.YticmebamclacaaaGreatDoor
open Go.RowKit LX Go.Shelf
set_option linter.unusedVariables false

theorem kindsAt_nat (L : List Dec) (i : Nat) (h : i < L.length) : kindsAt L (i : Int) = L[i].kinds := by
  unfold kindsAt
  rw [Int.toNat_natCast, List.getD_eq_getElem?_getD, List.getElem?_eq_getElem h]
  rfl
theorem bdrewX {B : Nat} {a w : World} (n : Nat) (h : Below B a w) : Below B a (w.drewN n) := ⟨h.os, h.tape, h.output, h.size, h.block⟩
set_option maxRecDepth 100000 in
set_option maxHeartbeats 4000000 in
theorem cevt_any (A V : Value) (L : List Dec) (e : Evt) (w : World) (hA : SigAt w A L) (hV : RowAt w V e.args) (fx : ∀ v ∈ e.args, v.Fits) (lL : L.length ≤ 9223372036854775807) (lk : ∀ d ∈ L, d.kinds.length ≤ 9223372036854775807) (lv : e.args.length ≤ 9223372036854775807) :
    Calls Tryz.prog 49 #[A, .agg #[.string e.name, V]] w fun r w' => r = .returned (errV (evtE L e)) ∧ Below w.heap.size w w' := by
  have HA : Hid (SigAt w A L) := hA
  have HV : Hid (RowAt w V e.args) := hV
  have LK : Hid (∀ d ∈ L, d.kinds.length ≤ 9223372036854775807) := lk
  obtain ⟨pA, cA, rfl, -, HX0⟩ := hA.form
  obtain ⟨pv, cv, rfl, HY0⟩ := hV.formX
  have HX : Hid (∀ i (hi : i < L.length), ∃ b off u, pA = some ⟨b, off, none⟩ ∧ b < w.heap.size ∧ w.cell? ⟨b, off + i * 2, none⟩ = some (.string L[i].name) ∧ w.cell? ⟨b, off + i * 2 + 1, none⟩ = some u ∧ KAt w u L[i].kinds) := HX0
  have HY : Hid (∀ i (hi : i < e.args.length), ∃ b off, pv = some ⟨b, off, none⟩ ∧ b < w.heap.size ∧ w.cell? ⟨b, off + i * 4, none⟩ = some (.int .i64 e.args[i].k) ∧ w.cell? ⟨b, off + i * 4 + 1, none⟩ = some (.int .i64 e.args[i].n) ∧ w.cell? ⟨b, off + i * 4 + 2, none⟩ = some (.int .i64 e.args[i].d) ∧ w.cell? ⟨b, off + i * 4 + 3, none⟩ = some (.string e.args[i].s)) := HY0
  have cF : Hid (∀ W : World, Below w.heap.size w W → Calls Tryz.prog 70 #[.slice pA L.length cA, .string e.name] W fun e' w' => e' = .returned (.int .i64 (findI e.name L 0)) ∧ Below W.heap.size W w') := fun W hW => find_any _ L e.name W (HA.out.below hW) lL
  have hbd : Hid (0 ≤ findI e.name L 0 → (findI e.name L 0).toNat < L.length) := fun h => by have := findI_bound e.name L 0 h; omega
  have hev : Hid (evtE L e = if valsE e.args = 0 then (if 0 ≤ findI e.name L 0 ∧ kfit (kindsAt L (findI e.name L 0)) e.args = true then 0 else 90) else valsE e.args) := rfl
  clear hA hV HX0 HY0 lk
  obtain ⟨n, en⟩ : ∃ n : Nat, Hid (L.length = n) := ⟨_, rfl⟩
  obtain ⟨m, em⟩ : ∃ m : Nat, Hid (e.args.length = m) := ⟨_, rfl⟩
  obtain ⟨X, eX⟩ : ∃ X : ByteArray, Hid (e.name = X) := ⟨_, rfl⟩
  obtain ⟨I, eI⟩ : ∃ I : Int, Hid (findI X L 0 = I) := ⟨_, rfl⟩
  obtain ⟨E, eE⟩ : ∃ E : Int, Hid (evtE L e = E) := ⟨_, rfl⟩
  rw [eX.out, eI.out] at cF hbd
  rw [eE.out, eX.out, eI.out] at hev
  rw [en.out] at cF lL HA
  rw [em.out] at lv HV
  rw [eE.out, eX.out, en.out, em.out]
  go_enter Tryz.func49, Tryz.ntmps49
  go_wp2
  refine wpX_world ?_
  intro w0 hw0
  have z0 : w0.cell? ⟨w.heap.size, 0, none⟩ = some (.string X) := by rw [hw0]; simp [go_sem]
  have z1 : w0.cell? ⟨w.heap.size, 1, none⟩ = some (.slice pv m cv) := by rw [hw0]; simp [go_sem]
  have zB : Below w.heap.size w w0 := by rw [hw0]; go_grown
  have zs : w.heap.size < w0.heap.size := by rw [hw0]; simp
  clear hw0
  go_loopw [12] (fun i wr => ∃ k : Nat, k ≤ m ∧ i = .int .i64 k ∧ Hid (valsE e.args = valsE (e.args.drop k)) ∧ Below w0.heap.size w0 wr) (fun i _ => m - (intOf i).toNat)
  case atStart => exact ⟨0, Nat.zero_le _, rfl, by rw [List.drop_zero]; exact (show valsE e.args = valsE e.args from rfl), Below.refl _ _⟩
  case round =>
    obtain ⟨k, hk, rfl, hr, hB0⟩ := hrel
    have hB : Below w.heap.size w wr := zB.trans (hB0.mono zB.size)
    have y0 : wr.cell? ⟨w.heap.size, 0, none⟩ = some (.string X) := (hB0.cell (p := ⟨w.heap.size, 0, none⟩) zs).trans z0
    have y1 : wr.cell? ⟨w.heap.size, 1, none⟩ = some (.slice pv m cv) := (hB0.cell (p := ⟨w.heap.size, 1, none⟩) zs).trans z1
    have ys : w.heap.size < wr.heap.size := Nat.lt_of_lt_of_le zs hB0.size
    by_cases hlt : k < m
    · have kx : k < e.args.length := by have := em.out; omega
      obtain ⟨b, off, rfl, hb, r0, r1, r2, r3⟩ := HY.out k kx
      have a0 := (hB.cell (p := ⟨b, off + k * 4, none⟩) hb).trans r0
      have a1 := (hB.cell (p := ⟨b, off + k * 4 + 1, none⟩) hb).trans r1
      have a2 := (hB.cell (p := ⟨b, off + k * 4 + 2, none⟩) hb).trans r2
      have a3 := (hB.cell (p := ⟨b, off + k * 4 + 3, none⟩) hb).trans r3
      have hbr : b < wr.heap.size := Nat.lt_of_lt_of_le hb hB.size
      have f1 := fx e.args[k] (List.getElem_mem kx)
      have hr2 : Hid (valsE e.args = if e.args[k].may = 0 then valsE (e.args.drop (k + 1)) else e.args[k].may) := by
        have h := hr.out
        rw [List.drop_eq_getElem_cons kx] at h
        exact h
      clear r0 r1 r2 r3 hr
      generalize e.args[k] = Y at a0 a1 a2 a3 hr2 f1
      obtain ⟨C, eC⟩ : ∃ C : Int, Hid (Y.may = C) := ⟨_, rfl⟩
      rw [eC.out] at hr2
      have ct : Hid (∀ W : World, Calls Tryz.prog 69 #[.agg #[.int .i64 Y.k, .int .i64 Y.n, .int .i64 Y.d, .string Y.s]] W fun e w' => e = .returned (.int .i64 C) ∧ Below W.heap.size W w') := fun W => by
        have h := check_any Y.k Y.n Y.d Y.s W f1.n1 f1.n2 f1.d1 f1.d2
        rw [show chk Y.k Y.n Y.d Y.s = C from eC.out] at h
        exact h
      have cf : Hid (∀ W : World, Calls Tryz.prog 68 #[.int .i64 C] W fun r w' => r = .returned (errV C) ∧ w' = W) := fun W => failed_any C W
      clear eC
      by_cases hC : C = 0
      · have hr3 : Hid (valsE e.args = valsE (e.args.drop (k + 1))) := by have h := hr2.out; rwa [if_pos hC] at h
        subst hC
        rw [errV_0] at cf
        clear hr2
        go_wp2_with fail
        refine (ct.out _).mono ?_
        rintro e' w1 ⟨rfl, hw1⟩
        obtain ⟨hw2, hn2⟩ := bgX (n := wr.heap.size) (W0 := wr) (by go_grown) (by go_size) hw1
        have hB2 : Below w0.heap.size w0 w1 := hB0.trans (hw2.mono hB0.size)
        clear a0 a1 a2 a3 ct hw1 hw2 hn2
        go_wp2_with fail
        refine (cf.out _).mono ?_
        rintro e' w2 ⟨rfl, rfl⟩
        clear cf y0 y1
        go_wp2
        exact ⟨⟨k + 1, by omega, by go_num, hr3, hB2⟩, by simp [intOf]; omega⟩
      · have hr3 : Hid (E = C) := by
          have h := hev.out
          have h' := hr2.out
          rw [if_neg hC] at h'
          rw [h', if_neg hC] at h
          exact h
        have hd : Hid (errV C = .iface 92 (.agg #[.int .i64 C])) := errV_ne hC
        rw [hd.out] at cf
        clear hr2 hC
        go_wp2_with fail
        refine (ct.out _).mono ?_
        rintro e' w1 ⟨rfl, hw1⟩
        obtain ⟨hw2, hn2⟩ := bgX (n := wr.heap.size) (W0 := wr) (by go_grown) (by go_size) hw1
        have hB2 : Below w.heap.size w w1 := hB.trans (hw2.mono hB.size)
        clear a0 a1 a2 a3 ct hw1 hw2 hn2
        go_wp2_with fail
        refine (cf.out _).mono ?_
        rintro e' w2 ⟨rfl, rfl⟩
        clear cf y0 y1
        go_wp2
        go_ret
        exact ⟨retE hr3.out hd.out.symm, hB2⟩
    · have c2 : ¬ (k : Int) < m := by omega
      have hr3 : Hid (E = if 0 ≤ I ∧ kfit (kindsAt L I) e.args = true then 0 else 90) := by
        have h := hev.out
        have h' := hr.out
        rw [List.drop_eq_nil_of_le (by have := em.out; omega)] at h'
        rw [h'] at h
        exact h
      go_wp2_with fail
      refine (cF.out _ hB).mono ?_
      rintro e' w1 ⟨rfl, hw1⟩
      have hB1 : Below w.heap.size w w1 := hB.trans (hw1.mono hB.size)
      have x1 : w1.cell? ⟨w.heap.size, 1, none⟩ = some (.slice pv m cv) := (hw1.cell (p := ⟨w.heap.size, 1, none⟩) ys).trans y1
      have xs : w.heap.size < w1.heap.size := Nat.lt_of_lt_of_le ys hw1.size
      clear cF y0 y1 z0 z1 hw1
      by_cases hI : I < 0
      · have hr4 : Hid (E = 90) := by have h := hr3.out; rwa [if_neg (by omega)] at h
        clear hr3
        go_upto_region 9 with fail
        go_quiet (fail)
        have K9 : Below w.heap.size w (w1.drewN nq) := bdrewX _ hB1
        go_wp2
        go_ret
        exact ⟨retE hr4.out rfl, K9⟩
      · obtain ⟨i, rfl⟩ : ∃ i : Nat, I = i := ⟨I.toNat, by omega⟩
        have hin : i < L.length := by have h := hbd.out (by omega); simpa using h
        have hi : i < n := by have := en.out; omega
        obtain ⟨b, off, u, rfl, hb, r0, r1, r2⟩ := HX.out i hin
        have a1 := (hB1.cell (p := ⟨b, off + i * 2 + 1, none⟩) hb).trans r1
        have hk2 : Hid (kindsAt L (i : Int) = L[i].kinds) := kindsAt_nat L i hin
        have lki := LK.out _ (List.getElem_mem hin)
        have hK1 : KAt w1 u L[i].kinds := r2.below hB1
        obtain ⟨F, eF⟩ : ∃ F : Bool, Hid (kfit L[i].kinds e.args = F) := ⟨kfit L[i].kinds e.args, (show _ = _ from rfl)⟩
        have hr4 : Hid (E = if F = true then 0 else 90) := by
          have h := hr3.out
          rw [hk2.out, eF.out] at h
          unfold Hid
          rw [h]
          simp
        obtain ⟨pk, ck, rfl, -⟩ := hK1.form
        have ct : Hid (∀ W : World, Below w1.heap.size w1 W → Calls Tryz.prog 71 #[.slice pk L[i].kinds.length ck, .slice pv m cv, .func (.func 72) #[] #[]] W fun e w' => e = .returned (.bool F) ∧ Below W.heap.size W w') := fun W hW => by
          have h := eqk_any _ (.slice pv m cv) L[i].kinds e.args W (hK1.below hW) (HV.out.below (hB1.trans (hW.mono hB1.size))) lki (by have := em.out; omega)
          rw [eF.out] at h
          exact h
        have hbl : b < w1.heap.size := Nat.lt_of_lt_of_le hb hB1.size
        have hnI : ¬ (i : Int) < 0 := by omega
        clear r0 r1 r2 hr3 hK1 eF hk2 hI
        generalize L[i].kinds.length = nk at a1 ct lki
        cases F with
        | true =>
          have hr5 : Hid (E = 0) := hr4.out
          clear hr4
          go_upto_region 9 with fail
          go_region_held3 (fun w' => w'.cell? ⟨b, off + i * 2 + 1, none⟩ = some (.slice pk nk ck) ∧ w'.cell? ⟨w.heap.size, 1, none⟩ = some (.slice pv m cv)) (exact ⟨bclX (n := w1.heap.size) (by go_grown) a1 hbl, bclX (n := w1.heap.size) (by go_grown) x1 xs⟩)
            (first
              | (go_at_call 71; refine (ct.out _ (by go_grown)).mono ?_; rintro e' w2 ⟨rfl, hb2⟩; obtain ⟨hB2, hn2⟩ := bgX (n := w1.heap.size) (W0 := w1) (by go_grown) (by go_size) hb2))
          all_goals
            have K9 : Below w.heap.size w w2 := hB1.trans (hB2.mono hB1.size)
            clear ct a1 x1 hB2 hn2 hb2
            go_wp2
            go_ret
            exact ⟨retE hr5.out rfl, K9⟩
        | false =>
          have hr5 : Hid (E = 90) := hr4.out
          clear hr4
          go_upto_region 9 with fail
          go_region_held3 (fun w' => w'.cell? ⟨b, off + i * 2 + 1, none⟩ = some (.slice pk nk ck) ∧ w'.cell? ⟨w.heap.size, 1, none⟩ = some (.slice pv m cv)) (exact ⟨bclX (n := w1.heap.size) (by go_grown) a1 hbl, bclX (n := w1.heap.size) (by go_grown) x1 xs⟩)
            (first
              | (go_at_call 71; refine (ct.out _ (by go_grown)).mono ?_; rintro e' w2 ⟨rfl, hb2⟩; obtain ⟨hB2, hn2⟩ := bgX (n := w1.heap.size) (W0 := w1) (by go_grown) (by go_size) hb2))
          all_goals
            have K9 : Below w.heap.size w w2 := hB1.trans (hB2.mono hB1.size)
            clear ct a1 x1 hB2 hn2 hb2
            go_wp2
            go_ret
            exact ⟨retE hr5.out rfl, K9⟩

set_option maxRecDepth 100000 in
set_option maxHeartbeats 4000000 in
theorem cpoint_any (A V : Value) (L : List Dec) (t : Int) (es : List Evt) (w : World) (hA : SigAt w A L) (hV : EvsAt w V es) (fx : ∀ e ∈ es, ∀ v ∈ e.args, v.Fits) (lL : L.length ≤ 9223372036854775807) (lk : ∀ d ∈ L, d.kinds.length ≤ 9223372036854775807) (lv : ∀ e ∈ es, e.args.length ≤ 9223372036854775807) (le : es.length ≤ 9223372036854775807) :
    Calls Tryz.prog 25 #[A, .agg #[.int .i64 t, V]] w fun r w' => r = .returned (errV (pointE L t es)) ∧ Below w.heap.size w w' := by
  have HA : Hid (SigAt w A L) := hA
  have cS : Hid (∀ W : World, Below w.heap.size w W → Calls Tryz.prog 26 #[A] W fun e w' => e = .returned (errV (sigE L)) ∧ Below W.heap.size W w') := fun W hW => csig_any A L W (hA.below hW) lL lk
  have cE : Hid (∀ (W : World) (U : Value) (e : Evt), Below w.heap.size w W → e ∈ es → RowAt W U e.args → Calls Tryz.prog 49 #[A, .agg #[.string e.name, U]] W fun r w' => r = .returned (errV (evtE L e)) ∧ Below W.heap.size W w') := fun W U e hW he hU => cevt_any A U L e W (hA.below hW) hU (fx e he) lL lk (lv e he)
  obtain ⟨pA, cA, rfl, -⟩ := hA.form
  obtain ⟨pv, cv, rfl, HY0⟩ := hV.form
  have HY : Hid (∀ i (hi : i < es.length), ∃ b off u, pv = some ⟨b, off, none⟩ ∧ b < w.heap.size ∧ w.cell? ⟨b, off + i * 2, none⟩ = some (.string es[i].name) ∧ w.cell? ⟨b, off + i * 2 + 1, none⟩ = some u ∧ RowAt w u es[i].args) := HY0
  have hp : Hid (pointE L t es = if sigE L = 0 then (if sizeE t es.length = 0 then evtsE L es else sizeE t es.length) else sigE L) := rfl
  clear hA hV HY0 HA fx lk lv
  obtain ⟨n, en⟩ : ∃ n : Nat, Hid (L.length = n) := ⟨_, rfl⟩
  obtain ⟨m, em⟩ : ∃ m : Nat, Hid (es.length = m) := ⟨_, rfl⟩
  obtain ⟨E, eE⟩ : ∃ E : Int, Hid (pointE L t es = E) := ⟨_, rfl⟩
  obtain ⟨C, eC⟩ : ∃ C : Int, Hid (sigE L = C) := ⟨_, rfl⟩
  obtain ⟨Z, eZ⟩ : ∃ Z : Int, Hid (sizeE t m = Z) := ⟨_, rfl⟩
  rw [en.out, eC.out] at cS
  rw [en.out] at cE lL
  rw [eE.out, em.out, eC.out, eZ.out] at hp
  rw [em.out] at le
  rw [eE.out, en.out, em.out]
  have cZ : Hid (∀ W : World, Calls Tryz.prog 48 #[.agg #[.int .i64 t, .slice pv m cv]] W fun e w' => e = .returned (errV Z) ∧ Below W.heap.size W w') := fun W => by
    have h := csize_any t pv m cv W
    rw [eZ.out] at h
    exact h
  go_enter Tryz.func25, Tryz.ntmps25
  by_cases hC : C = 0
  · have hp1 : Hid (E = if Z = 0 then evtsE L es else Z) := by have h := hp.out; rwa [if_pos hC] at h
    subst hC
    rw [errV_0] at cS
    go_wp2_with fail
    refine (cS.out _ (by go_grown)).mono ?_
    rintro e w1 ⟨rfl, hb1⟩
    have b0 : w1.cell? ⟨w.heap.size, 0, none⟩ = some (.int .i64 t) := (hb1.cell (p := ⟨w.heap.size, 0, none⟩) (by simp)).trans (by simp [go_sem])
    have b1 : w1.cell? ⟨w.heap.size, 1, none⟩ = some (.slice pv m cv) := (hb1.cell (p := ⟨w.heap.size, 1, none⟩) (by simp)).trans (by simp [go_sem])
    have hs1 : w.heap.size < w1.heap.size := by have := hb1.size; simp at this; omega
    obtain ⟨hB1, -⟩ := bgX (n := w.heap.size) (W0 := w) (by go_grown) (by go_size) hb1
    clear hb1 cS
    by_cases hZ : Z = 0
    · have hE : Hid (E = evtsE L es) := by have h := hp1.out; rwa [if_pos hZ] at h
      subst hZ
      rw [errV_0] at cZ
      go_wp2_with fail
      refine (cZ.out _).mono ?_
      rintro e w2 ⟨rfl, hb2⟩
      have c1 : w2.cell? ⟨w.heap.size, 1, none⟩ = some (.slice pv m cv) := (hb2.cell (p := ⟨w.heap.size, 1, none⟩) hs1).trans b1
      have hB2 : Below w.heap.size w w2 := hB1.trans (hb2.mono hB1.size)
      clear b0 b1 cZ hb2 hB1
      go_wp2
      go_loopw [23] (fun i wr => ∃ k : Nat, k ≤ m ∧ i = .int .i64 k ∧ Hid (E = evtsE L (es.drop k)) ∧ Below w.heap.size w wr) (fun i _ => m - (intOf i).toNat)
      case atStart => exact ⟨0, Nat.zero_le _, rfl, by rw [List.drop_zero]; exact hE, hB2⟩
      case round =>
        obtain ⟨k, hk, rfl, hr, hBw⟩ := hrel
        by_cases hlt : k < m
        · have kx : k < es.length := by have := em.out; omega
          obtain ⟨b, off, u, rfl, hb, r0, r1, r2⟩ := HY.out k kx
          have a0 := (hBw.cell (p := ⟨b, off + k * 2, none⟩) hb).trans r0
          have a1 := (hBw.cell (p := ⟨b, off + k * 2 + 1, none⟩) hb).trans r1
          have hr2 : Hid (E = if evtE L es[k] = 0 then evtsE L (es.drop (k + 1)) else evtE L es[k]) := by
            have h := hr.out
            rw [List.drop_eq_getElem_cons kx] at h
            exact h
          obtain ⟨D, eD⟩ : ∃ D : Int, Hid (evtE L es[k] = D) := ⟨evtE L es[k], (show _ = _ from rfl)⟩
          have ct : Hid (∀ W : World, Below wr.heap.size wr W → Calls Tryz.prog 49 #[.slice pA n cA, .agg #[.string es[k].name, u]] W fun r w' => r = .returned (errV D) ∧ Below W.heap.size W w') := fun W hW => by
            have hWw := hBw.trans (hW.mono hBw.size)
            have h := cE.out W u es[k] hWw (List.getElem_mem kx) (r2.below hWw)
            rw [eD.out] at h
            exact h
          rw [eD.out] at hr2
          obtain ⟨pu, cu, rfl, -⟩ := r2.formX
          have hbr : b < wr.heap.size := Nat.lt_of_lt_of_le hb hBw.size
          clear r0 r1 r2 hr eD
          generalize es[k].args.length = nk at a1 ct
          generalize es[k].name = X at a0 ct
          by_cases hD : D = 0
          · have hr3 : Hid (E = evtsE L (es.drop (k + 1))) := by have h := hr2.out; rwa [if_pos hD] at h
            subst hD
            rw [errV_0] at ct
            clear hr2
            go_wp2_with fail
            refine (ct.out _ (by go_grown)).mono ?_
            rintro e w3 ⟨rfl, hb3⟩
            obtain ⟨hB3, -⟩ := bgX (n := wr.heap.size) (W0 := wr) (by go_grown) (by go_size) hb3
            have K9 : Below w.heap.size w w3 := hBw.trans (hB3.mono hBw.size)
            clear ct a0 a1 hB3 hb3
            go_wp2
            exact ⟨⟨k + 1, by omega, by go_num, hr3, K9⟩, by simp [intOf]; omega⟩
          · have hr3 : Hid (E = D) := by have h := hr2.out; rwa [if_neg hD] at h
            have hd : Hid (errV D = .iface 92 (.agg #[.int .i64 D])) := errV_ne hD
            rw [hd.out] at ct
            clear hr2 hD
            go_wp2_with fail
            refine (ct.out _ (by go_grown)).mono ?_
            rintro e w3 ⟨rfl, hb3⟩
            obtain ⟨hB3, -⟩ := bgX (n := wr.heap.size) (W0 := wr) (by go_grown) (by go_size) hb3
            have K9 : Below w.heap.size w w3 := hBw.trans (hB3.mono hBw.size)
            clear ct a0 a1 hB3 hb3
            go_wp2
            go_ret
            exact ⟨retE hr3.out hd.out.symm, K9⟩
        · have c2 : ¬ (k : Int) < m := by omega
          have hr3 : Hid (E = 0) := by
            have h := hr.out
            rw [List.drop_eq_nil_of_le (by have := em.out; omega)] at h
            exact h
          go_wp2
          go_ret
          exact ⟨retE hr3.out rfl, hBw⟩
    · have hE : Hid (E = Z) := by have h := hp1.out; rwa [if_neg hZ] at h
      have hd : Hid (errV Z = .iface 92 (.agg #[.int .i64 Z])) := errV_ne hZ
      rw [hd.out] at cZ
      clear hZ
      go_wp2_with fail
      refine (cZ.out _).mono ?_
      rintro e w2 ⟨rfl, hb2⟩
      have hB2 : Below w.heap.size w w2 := hB1.trans (hb2.mono hB1.size)
      clear b0 b1 cZ hb2 hB1
      go_wp2
      go_ret
      exact ⟨retE hE.out hd.out.symm, hB2⟩
  · have hE : Hid (E = C) := by have h := hp.out; rwa [if_neg hC] at h
    have hd : Hid (errV C = .iface 92 (.agg #[.int .i64 C])) := errV_ne hC
    rw [hd.out] at cS
    clear hC
    go_wp2_with fail
    refine (cS.out _ (by go_grown)).mono ?_
    rintro e w1 ⟨rfl, hb1⟩
    obtain ⟨hB1, -⟩ := bgX (n := w.heap.size) (W0 := w) (by go_grown) (by go_size) hb1
    clear hb1 cS
    go_wp2
    go_ret
    exact ⟨retE hE.out hd.out.symm, hB1⟩

set_option maxRecDepth 100000 in
theorem checkpoint_any (A V : Value) (L : List Dec) (t : Int) (es : List Evt) (w : World) (hg : ErrT w) (hA : SigAt w A L) (hV : EvsAt w V es) (fx : ∀ e ∈ es, ∀ v ∈ e.args, v.Fits) (lL : L.length ≤ 9223372036854775807) (lk : ∀ d ∈ L, d.kinds.length ≤ 9223372036854775807) (lv : ∀ e ∈ es, e.args.length ≤ 9223372036854775807) (le : es.length ≤ 9223372036854775807) :
    Calls Tryz.prog 9 #[A, .agg #[.int .i64 t, V]] w fun r w' => r = .returned (.int .i64 (pointE L t es)) ∧ Below w.heap.size w w' := by
  have ct : Hid (∀ W : World, Below w.heap.size w W → Calls Tryz.prog 25 #[A, .agg #[.int .i64 t, V]] W fun e w' => e = .returned (errV (pointE L t es)) ∧ Below W.heap.size W w') := fun W hW => cpoint_any A V L t es W (hA.below hW) (hV.below hW) fx lL lk lv le
  obtain ⟨p, c, rfl, -⟩ := hA.form
  obtain ⟨pv, cv, rfl, -⟩ := hV.form
  generalize pointE L t es = E at *
  clear hA hV lk fx lv
  generalize L.length = n at *
  generalize es.length = m at *
  have cn : Hid (∀ W : World, ErrT W → Calls Tryz.prog 24 #[errV E] W fun r w' => r = .returned (.int .i64 E) ∧ Below W.heap.size W w') := fun W hW => tnumber_any E W hW
  generalize errV E = EV at *
  go_enter Tryz.func9, Tryz.ntmps9
  go_wp2_with fail
  refine (ct.out _ (by go_grown)).mono ?_
  rintro e w1 ⟨rfl, hw1⟩
  obtain ⟨hB1, -⟩ := bgX (n := w.heap.size) (W0 := w) (by go_grown) (by go_size) hw1
  clear ct hw1
  go_wp2_with fail
  refine (cn.out _ (hg.below hB1)).mono ?_
  rintro e w2 ⟨rfl, hw2⟩
  have K : Below w.heap.size w w2 := hB1.trans (hw2.mono hB1.size)
  clear cn hB1 hw2
  go_wp2
  go_ret
  exact ⟨rfl, K⟩

end Go.Proofs.YticmebamclacaaaGreatDoor

namespace Go.Proofs.YticmebamclacaaaGreatDoor
open Go.RowKit LX Go.Shelf
set_option linter.unusedVariables false

/-- Why events may not be told. -/
def wevsE : List Evt → Int
  | [] => 0
  | e :: l => if wevE e = 0 then wevsE l else wevE e
def evsT : List Evt → List UInt8
  | [] => []
  | e :: l => evtT e ++ evsT l
def evW (e : Evt) : Nat := 301 * e.args.length + e.name.size + 500
def evsW : List Evt → Nat
  | [] => 0
  | e :: l => evW e + evsW l
theorem evsT_snoc (l : List Evt) (v : Evt) : evsT (l ++ [v]) = evsT l ++ evtT v := by
  induction l with
  | nil => simp [evsT]
  | cons x l ih => simp only [List.cons_append, evsT, ih, List.append_assoc]
theorem evsW_snoc (l : List Evt) (v : Evt) : evsW (l ++ [v]) = evsW l + evW v := by
  induction l with
  | nil => simp [evsW]
  | cons x l ih => simp only [List.cons_append, evsW, ih]; omega
theorem evsW_app (l r : List Evt) : evsW (l ++ r) = evsW l + evsW r := by
  induction l with
  | nil => simp [evsW]
  | cons x l ih => simp only [List.cons_append, evsW, ih]; omega
theorem evsW_take (l : List Evt) (k : Nat) (h : k < l.length) : evsW (l.take k) + evW l[k] ≤ evsW l := by
  have e1 : l.take (k + 1) = l.take k ++ [l[k]] := List.take_succ_eq_append_getElem h
  have e2 : evsW l = evsW (l.take (k + 1)) + evsW (l.drop (k + 1)) := by rw [← evsW_app, List.take_append_drop]
  rw [e2, e1, evsW_snoc]
  omega
theorem wevE_vals {e : Evt} (h : wevE e = 0) : nameB e.name = true ∧ valsE e.args = 0 := by
  unfold wevE at h
  by_cases hn : nameB e.name = true
  · rw [if_pos hn] at h; exact ⟨hn, h⟩
  · rw [if_neg hn] at h; cases h
theorem evtT_len {e : Evt} (h : wevE e = 0) (fx : ∀ v ∈ e.args, v.Fits) : (evtT e).length ≤ evW e := by
  obtain ⟨-, hv⟩ := wevE_vals h
  have h1 := argsT_len e.args (fun v hm => ⟨valsE_all hv v hm, fx v hm⟩)
  have h2 : e.name.data.toList.length = e.name.size := by simp
  unfold evtT evW
  simp only [List.length_append, List.length_cons, List.length_nil]
  omega
theorem evsT_len {l : List Evt} (h : ∀ e ∈ l, wevE e = 0) (fx : ∀ e ∈ l, ∀ v ∈ e.args, v.Fits) : (evsT l).length ≤ evsW l := by
  induction l with
  | nil => simp [evsT]
  | cons x l ih =>
    have h1 := evtT_len (h x (by simp)) (fx x (by simp))
    have h2 := ih (fun v hv => h v (by simp [hv])) (fun v hv => fx v (by simp [hv]))
    simp only [evsT, evsW, List.length_append]
    omega
/-- A point's line, and why it has none. -/
def lineT (t : Int) (es : List Evt) : List UInt8 := (64 :: Lib.itoa t) ++ evsT es
def ppE (t : Int) (es : List Evt) : Int := if sizeE t es.length = 0 then (if wevsE es = 0 then (if 4096 < (lineT t es).length then 2 else 0) else wevsE es) else sizeE t es.length
def ppT (t : Int) (es : List Evt) : List UInt8 := if ppE t es = 0 then lineT t es else []
theorem sizeE_ok {t : Int} {n : Nat} (h : sizeE t n = 0) : 0 ≤ t ∧ t ≤ 1099511627776 ∧ n ≤ 64 := by
  unfold sizeE at h
  split at h
  · cases h
  · split at h
    · cases h
    · omega
theorem ret2 {s : ByteArray} {E n : Int} {v : Value} {l : List UInt8} (hs : (⟨l.toArray⟩ : ByteArray) = s) (h : E = n) (hv : v = errV n) : Ending.returned (.tuple #[.string s, v]) = .returned (.tuple #[.string ⟨l.toArray⟩, errV E]) := by rw [h, hv, hs]

set_option maxRecDepth 100000 in
set_option maxHeartbeats 8000000 in
theorem ptext_any (V : Value) (t : Int) (es : List Evt) (w : World) (t1 : -9223372036854775808 ≤ t) (t2 : t ≤ 9223372036854775807) (hV : EvsAt w V es) (ht : Pow w) (fx : ∀ e ∈ es, ∀ v ∈ e.args, v.Fits) (lv : ∀ e ∈ es, e.args.length ≤ 9223372036854775807) (le : es.length ≤ 9223372036854775807) (hl : evsW es + 1000 ≤ 140737488355328) :
    Calls Tryz.prog 44 #[.agg #[.int .i64 t, V]] w fun r w' => r = .returned (.tuple #[.string ⟨(ppT t es).toArray⟩, errV (ppE t es)]) ∧ Below w.heap.size w w' := by
  obtain ⟨pv, cv, rfl, HY0⟩ := hV.form
  have HY : Hid (∀ i (hi : i < es.length), ∃ b off u, pv = some ⟨b, off, none⟩ ∧ b < w.heap.size ∧ w.cell? ⟨b, off + i * 2, none⟩ = some (.string es[i].name) ∧ w.cell? ⟨b, off + i * 2 + 1, none⟩ = some u ∧ RowAt w u es[i].args) := HY0
  have HT : Hid (Pow w) := ht
  have hp : Hid (ppE t es = if sizeE t es.length = 0 then (if wevsE es = 0 then (if 4096 < (lineT t es).length then 2 else 0) else wevsE es) else sizeE t es.length) := rfl
  have hq : Hid (ppT t es = if ppE t es = 0 then lineT t es else []) := rfl
  have lI := Lib.itoa_length_le t t1 t2
  clear hV HY0 ht
  obtain ⟨m, em⟩ : ∃ m : Nat, Hid (es.length = m) := ⟨_, rfl⟩
  obtain ⟨E, eE⟩ : ∃ E : Int, Hid (ppE t es = E) := ⟨_, rfl⟩
  obtain ⟨Q, eQ⟩ : ∃ Q : List UInt8, Hid (ppT t es = Q) := ⟨_, rfl⟩
  obtain ⟨Z, eZ⟩ : ∃ Z : Int, Hid (sizeE t m = Z) := ⟨_, rfl⟩
  rw [eE.out, em.out, eZ.out] at hp
  rw [eE.out, eQ.out] at hq
  rw [em.out] at le
  rw [eE.out, eQ.out, em.out]
  have cZ : Hid (∀ W : World, Calls Tryz.prog 48 #[.agg #[.int .i64 t, .slice pv m cv]] W fun e w' => e = .returned (errV Z) ∧ Below W.heap.size W w') := fun W => by
    have h := csize_any t pv m cv W
    rw [eZ.out] at h
    exact h
  go_enter Tryz.func44, Tryz.ntmps44
  by_cases hZ : Z = 0
  · have hp1 : Hid (E = if wevsE es = 0 then (if 4096 < (lineT t es).length then 2 else 0) else wevsE es) := by have h := hp.out; rwa [if_pos hZ] at h
    have h64 : m ≤ 64 := (sizeE_ok (eZ.out.trans hZ)).2.2
    subst hZ
    rw [errV_0] at cZ
    obtain ⟨A, eA⟩ : ∃ A : ByteArray, Hid (⟨(Lib.itoa t).toArray⟩ = A) := ⟨_, rfl⟩
    obtain ⟨S, eS⟩ : ∃ S : ByteArray, Hid (S = (⟨#[64]⟩ : ByteArray) ++ A) := ⟨_, rfl⟩
    have sA : A.size ≤ 21 := by rw [← eA.out]; show (Lib.itoa t).toArray.size ≤ 21; simpa using lI
    have x1 : ∀ W : World, (Op.stringOp .add ⟨#[64]⟩ A).run Tryz.prog W = .ok (.string S) W := fun W => by
      rw [run_string_add_sum W _ _ (by have : (⟨#[64]⟩ : ByteArray).size = 1 := rfl
                                       omega), eS.out]
    have sS : S.size ≤ 22 := by
      rw [eS.out, ByteArray.size_append]
      have : (⟨#[64]⟩ : ByteArray).size = 1 := rfl
      omega
    have lS : Hid (S.data.toList = 64 :: Lib.itoa t) := by unfold Hid; rw [eS.out, ← eA.out]; simp
    have cI : Hid (∀ W : World, Pow W → Calls Tryz.prog 60 #[.int .i64 t, .int .i64 10] W fun e w' => e = .returned (.string A) ∧ Below W.heap.size W w') := fun W hW => by
      refine (Tryz.strconv_FormatInt_10 t t1 t2 W hW).mono ?_
      rintro e w1 ⟨rfl, k, os, rfl⟩
      rw [eA.out]
      exact ⟨rfl, below_grow W k os⟩
    go_wp2_with fail
    refine (cZ.out _).mono ?_
    rintro e w1 ⟨rfl, hb1⟩
    have b0 : w1.cell? ⟨w.heap.size, 0, none⟩ = some (.int .i64 t) := (hb1.cell (p := ⟨w.heap.size, 0, none⟩) (by simp)).trans (by simp [go_sem])
    have b1 : w1.cell? ⟨w.heap.size, 1, none⟩ = some (.slice pv m cv) := (hb1.cell (p := ⟨w.heap.size, 1, none⟩) (by simp)).trans (by simp [go_sem])
    have hs1 : w.heap.size < w1.heap.size := by have := hb1.size; simp at this; omega
    obtain ⟨hB1, -⟩ := bgX (n := w.heap.size) (W0 := w) (by go_grown) (by go_size) hb1
    clear hb1 cZ
    go_wp2_with fail
    refine (cI.out _ (HT.out.below (hB1.trans (Below.mono (B := w1.heap.size) (by go_grown) hB1.size)))).mono ?_
    rintro e w2 ⟨rfl, hb2⟩
    have HB2 : Hid (Bld w1.heap.size w1.heap.size [] w2) := by
      have h0 : Bld w1.heap.size w1.heap.size [] (w1.alloc (.cells #[.pointer none, .slice none 0 0] 62)) := Lib.fresh_isBuilder _ _ w1
      exact h0.below hb2
    have hs2 : w1.heap.size < w2.heap.size := by have := hb2.size; simp at this; omega
    have c1 : w2.cell? ⟨w.heap.size, 1, none⟩ = some (.slice pv m cv) := (hb2.cell (p := ⟨w.heap.size, 1, none⟩) (by simp; omega)).trans (by rw [World.cell?_alloc_lt _ _ ⟨w.heap.size, 1, none⟩ hs1]; exact b1)
    obtain ⟨hB2, -⟩ := bgX (n := w1.heap.size) (W0 := w1) (by go_grown) (by go_size) hb2
    clear hb2 cI b0 b1
    go_wp2_with fail
    refine (wsB w1.heap.size w1.heap.size [] S _ HB2.out (by simp; omega) (by omega)).mono ?_
    rintro e w3 ⟨rfl, hb3, hB3, -⟩
    have d1 : w3.cell? ⟨w.heap.size, 1, none⟩ = some (.slice pv m cv) := (hB3.cell (p := ⟨w.heap.size, 1, none⟩) hs1).trans c1
    have K3 : Below w1.heap.size w1 w3 := hB2.trans hB3
    have HB3 : Hid (Bld w1.heap.size w1.heap.size (64 :: Lib.itoa t) w3) := by rw [← lS.out]; exact hb3
    have hs3 : w1.heap.size < w3.heap.size := Nat.lt_of_lt_of_le hs2 hB3.size
    clear hb3 hB3 hB2 HB2 c1 x1
    go_wp2
    go_loopw [22] (fun i wr => ∃ k : Nat, k ≤ m ∧ i = .int .i64 k ∧ Hid (wevsE es = wevsE (es.drop k)) ∧ Hid (∀ v ∈ es.take k, wevE v = 0) ∧ Hid (Bld w1.heap.size w1.heap.size ((64 :: Lib.itoa t) ++ evsT (es.take k)) wr) ∧ Below w1.heap.size w1 wr) (fun i _ => m - (intOf i).toNat)
    case atStart => exact ⟨0, Nat.zero_le _, rfl, by rw [List.drop_zero]; exact (show wevsE es = wevsE es from rfl), (fun v hv => by simp at hv), by simpa [evsT, Hid] using HB3.out, K3⟩
    case round =>
      obtain ⟨k, hk, rfl, hr, hok, hbl, hBw⟩ := hrel
      have lT : (evsT (es.take k)).length ≤ evsW (es.take k) := evsT_len hok.out (fun e he => fx e (List.mem_of_mem_take he))
      have lG : ((64 :: Lib.itoa t) ++ evsT (es.take k)).length ≤ evsW (es.take k) + 22 := by
        rw [List.length_append, List.length_cons]
        omega
      have hBww : Below w.heap.size w wr := hB1.trans (hBw.mono hB1.size)
      by_cases hlt : k < m
      · have kx : k < es.length := by have := em.out; omega
        obtain ⟨b, off, u, rfl, hb, r0, r1, r2⟩ := HY.out k kx
        have a0 := (hBww.cell (p := ⟨b, off + k * 2, none⟩) hb).trans r0
        have a1 := (hBww.cell (p := ⟨b, off + k * 2 + 1, none⟩) hb).trans r1
        have hr2 : Hid (wevsE es = if wevE es[k] = 0 then wevsE (es.drop (k + 1)) else wevE es[k]) := by
          have h := hr.out
          rw [List.drop_eq_getElem_cons kx] at h
          exact h
        have hbl2 : Hid (∀ W, Bld w1.heap.size w1.heap.size ((64 :: Lib.itoa t) ++ evsT (es.take k) ++ evtT es[k]) W → Bld w1.heap.size w1.heap.size ((64 :: Lib.itoa t) ++ evsT (es.take (k + 1))) W) := fun W h => by
          rw [List.take_succ_eq_append_getElem kx, evsT_snoc, ← List.append_assoc]
          exact h
        have hok2 : Hid (wevE es[k] = 0 → ∀ v ∈ es.take (k + 1), wevE v = 0) := fun hz v hv => by
          rw [List.take_succ_eq_append_getElem kx] at hv
          rcases List.mem_append.1 hv with hv | hv
          · exact hok.out v hv
          · rw [List.mem_singleton] at hv; rw [hv]; exact hz
        have hwk := evsW_take es k kx
        obtain ⟨D, eD⟩ : ∃ D : Int, Hid (wevE es[k] = D) := ⟨wevE es[k], (show _ = _ from rfl)⟩
        have HBL : Hid (Bld w1.heap.size w1.heap.size ((64 :: Lib.itoa t) ++ evsT (es.take k)) wr) := hbl
        have ct : Hid (∀ W : World, Below wr.heap.size wr W → Calls Tryz.prog 61 #[.pointer (some ⟨w1.heap.size, 0, none⟩), .agg #[.string es[k].name, u]] W fun r w' => r = .returned (errV D) ∧ Below w1.heap.size W w' ∧ (D = 0 → Bld w1.heap.size w1.heap.size ((64 :: Lib.itoa t) ++ evsT (es.take k) ++ evtT es[k]) w')) := fun W hW => by
          have h := wev_any w1.heap.size w1.heap.size ((64 :: Lib.itoa t) ++ evsT (es.take k)) es[k] u w W (hBww.trans (hW.mono hBww.size)) (Nat.le_of_lt hs1) (Nat.le_trans hBw.size hW.size) (HBL.out.below hW) r2 HT.out (fx _ (List.getElem_mem kx)) (lv _ (List.getElem_mem kx)) (by unfold evW at hwk; omega)
          rw [eD.out] at h
          exact h
        rw [eD.out] at hr2 hok2
        obtain ⟨pu, cu, rfl, -⟩ := r2.formX
        clear r0 r1 r2 hr eD hok hbl HBL lG lT
        generalize es[k].args.length = nk at a1 ct
        generalize (64 :: Lib.itoa t) ++ evsT (es.take k) ++ evtT es[k] = G at ct hbl2
        generalize es[k].name = X at a0 ct
        by_cases hD : D = 0
        · have hr3 : Hid (wevsE es = wevsE (es.drop (k + 1))) := by have h := hr2.out; rwa [if_pos hD] at h
          have hok3 : Hid (∀ v ∈ es.take (k + 1), wevE v = 0) := hok2.out hD
          subst hD
          rw [errV_0] at ct
          clear hr2 hok2
          go_wp2_with fail
          refine (ct.out _ (by go_grown)).mono ?_
          rintro e w4 ⟨rfl, hb4, hg4⟩
          have K4 : Below w1.heap.size w1 w4 := hBw.trans (Below.trans (Below.mono (B := wr.heap.size) (by go_grown) hBw.size) hb4)
          have HB4 : Hid (Bld w1.heap.size w1.heap.size ((64 :: Lib.itoa t) ++ evsT (es.take (k + 1))) w4) := hbl2.out w4 (hg4 (by first | trivial | rfl))
          clear ct a0 a1 hb4 hg4 hbl2
          go_wp2
          exact ⟨⟨k + 1, by omega, by go_num, hr3, hok3, HB4, K4⟩, by simp [intOf]; omega⟩
        · have hr3 : Hid (wevsE es = D) := by have h := hr2.out; rwa [if_neg hD] at h
          have hE : Hid (E = D) := by
            have h := hp1.out
            rw [hr3.out, if_neg hD] at h
            exact h
          have hQ : Hid (Q = []) := by have h := hq.out; rwa [if_neg (by rw [hE.out]; exact hD)] at h
          have hd : Hid (errV D = .iface 92 (.agg #[.int .i64 D])) := errV_ne hD
          rw [hd.out] at ct
          clear hr2 hD hok2
          go_wp2_with fail
          refine (ct.out _ (by go_grown)).mono ?_
          rintro e w4 ⟨rfl, hb4, -⟩
          have K4 : Below w1.heap.size w1 w4 := hBw.trans (Below.trans (Below.mono (B := wr.heap.size) (by go_grown) hBw.size) hb4)
          have K5 : Below w.heap.size w w4 := hB1.trans (K4.mono hB1.size)
          clear ct a0 a1 hb4 hbl2
          go_wp2
          go_ret2
          exact ⟨ret2 (by rw [hQ.out]) hE.out hd.out.symm, K5⟩
      · have c2 : ¬ (k : Int) < m := by omega
        have hr3 : Hid (wevsE es = 0) := by
          have h := hr.out
          rw [List.drop_eq_nil_of_le (by have := em.out; omega)] at h
          exact h
        have hall : es.take k = es := List.take_of_length_le (by have := em.out; omega)
        rw [hall] at hbl
        have HBL : Hid (Bld w1.heap.size w1.heap.size (lineT t es) wr) := hbl
        have hE1 : Hid (E = if 4096 < (lineT t es).length then 2 else 0) := by have h := hp1.out; rwa [if_pos hr3.out] at h
        have cL : Hid (Calls Tryz.prog 62 #[.pointer (some ⟨w1.heap.size, 0, none⟩)] wr fun e w' => e = .returned (.int .i64 (lineT t es).length) ∧ w' = wr) := by
          have h := Tryz.Builder_Len w1.heap.size w1.heap.size _ wr HBL.out
          rw [Lib.byteCells_length] at h
          exact h
        have cT : Hid (Calls Tryz.prog 32 #[.pointer (some ⟨w1.heap.size, 0, none⟩)] wr fun e w' => e = .returned (.string ⟨(lineT t es).toArray⟩) ∧ Below w1.heap.size wr w') := Tryz.Builder_String_any w1.heap.size w1.heap.size _ wr HBL.out hBw.size
        clear hbl hall lT lG hr hok HBL
        generalize hN : (lineT t es).length = N at cL hE1
        have hN' : Hid ((lineT t es).length = N) := hN
        clear hN
        generalize lineT t es = LT at cT hq hN'
        by_cases h4 : 4096 < N
        · have hE : Hid (E = 2) := by have h := hE1.out; rwa [if_pos h4] at h
          have hQ : Hid (Q = []) := by have h := hq.out; rwa [if_neg (by rw [hE.out]; decide)] at h
          have h4' : (4096 : Int) < N := by omega
          go_wp2_with fail
          refine cL.out.mono ?_
          rintro e w4 ⟨rfl, rfl⟩
          clear cL cT
          go_wp2
          go_ret2
          exact ⟨ret2 (by rw [hQ.out]) hE.out rfl, hBww⟩
        · have hE : Hid (E = 0) := by have h := hE1.out; rwa [if_neg h4] at h
          have hQ : Hid (Q = LT) := by have h := hq.out; rwa [if_pos hE.out] at h
          have h4' : ¬ (4096 : Int) < N := by omega
          go_wp2_with fail
          refine cL.out.mono ?_
          rintro e w4 ⟨rfl, rfl⟩
          clear cL
          go_wp2_with fail
          refine cT.out.mono ?_
          rintro e w5 ⟨rfl, hb5⟩
          have K5 : Below w.heap.size w w5 := hBww.trans (hb5.mono (Nat.le_of_lt hs1))
          clear cT hb5
          go_wp2
          go_ret2
          exact ⟨ret2 (by rw [hQ.out]) hE.out rfl, K5⟩
  · have hE : Hid (E = Z) := by have h := hp.out; rwa [if_neg hZ] at h
    have hQ : Hid (Q = []) := by have h := hq.out; rwa [if_neg (by rw [hE.out]; exact hZ)] at h
    have hd : Hid (errV Z = .iface 92 (.agg #[.int .i64 Z])) := errV_ne hZ
    rw [hd.out] at cZ
    clear hZ
    go_wp2_with fail
    refine (cZ.out _).mono ?_
    rintro e w1 ⟨rfl, hb1⟩
    obtain ⟨hB1, -⟩ := bgX (n := w.heap.size) (W0 := w) (by go_grown) (by go_size) hb1
    clear hb1 cZ
    go_wp2
    go_ret2
    exact ⟨ret2 (by rw [hQ.out]) hE.out hd.out.symm, hB1⟩

set_option maxRecDepth 100000 in
theorem ppoint_any (V : Value) (t : Int) (es : List Evt) (w : World) (hg : ErrT w) (t1 : -9223372036854775808 ≤ t) (t2 : t ≤ 9223372036854775807) (hV : EvsAt w V es) (ht : Pow w) (fx : ∀ e ∈ es, ∀ v ∈ e.args, v.Fits) (lv : ∀ e ∈ es, e.args.length ≤ 9223372036854775807) (le : es.length ≤ 9223372036854775807) (hl : evsW es + 1000 ≤ 140737488355328) :
    Calls Tryz.prog 22 #[.agg #[.int .i64 t, V]] w fun r w' => r = .returned (.tuple #[.string ⟨(ppT t es).toArray⟩, .int .i64 (ppE t es)]) ∧ Below w.heap.size w w' := by
  have ct : Hid (∀ W : World, Below w.heap.size w W → Calls Tryz.prog 44 #[.agg #[.int .i64 t, V]] W fun r w' => r = .returned (.tuple #[.string ⟨(ppT t es).toArray⟩, errV (ppE t es)]) ∧ Below W.heap.size W w') := fun W hW => ptext_any V t es W t1 t2 (hV.below hW) (ht.below hW) fx lv le hl
  obtain ⟨pv, cv, rfl, -⟩ := hV.form
  generalize (⟨(ppT t es).toArray⟩ : ByteArray) = Q at *
  generalize ppE t es = E at *
  clear hV fx lv hl
  generalize es.length = m at *
  have cn : Hid (∀ W : World, ErrT W → Calls Tryz.prog 24 #[errV E] W fun r w' => r = .returned (.int .i64 E) ∧ Below W.heap.size W w') := fun W hW => tnumber_any E W hW
  generalize errV E = EV at *
  go_enter Tryz.func22, Tryz.ntmps22
  go_wp2_with fail
  refine (ct.out _ (by go_grown)).mono ?_
  rintro e w1 ⟨rfl, hw1⟩
  obtain ⟨hB1, -⟩ := bgX (n := w.heap.size) (W0 := w) (by go_grown) (by go_size) hw1
  clear ct hw1
  go_wp2_with fail
  refine (cn.out _ (hg.below hB1)).mono ?_
  rintro e w2 ⟨rfl, hw2⟩
  have K : Below w.heap.size w w2 := hB1.trans (hw2.mono hB1.size)
  clear cn hB1 hw2
  go_wp2
  go_ret2
  exact ⟨rfl, K⟩

end Go.Proofs.YticmebamclacaaaGreatDoor

namespace Go.Proofs.YticmebamclacaaaGreatDoor
open Go.RowKit LX Go.Shelf
set_option linter.unusedVariables false

end Go.Proofs.YticmebamclacaaaGreatDoor

namespace Go.Proofs.YticmebamclacaaaGreatDoor
open Go.RowKit LX Go.Shelf
set_option linter.unusedVariables false

def kwords : List (List UInt8) := [[], [105, 110, 116], [114, 97, 116], [115, 116, 114]]
set_option maxRecDepth 100000 in
theorem kinds_any (w : World) :
    Calls Tryz.prog 33 #[] w fun e w' => e = .returned (.slice (some ⟨w.heap.size, 0, none⟩) 4 4) ∧ Below w.heap.size w w' ∧ StrAt w' (.slice (some ⟨w.heap.size, 0, none⟩) 4 4) kwords := by
  go_enter Tryz.func33, Tryz.ntmps33
  go_wp2
  go_ret
  refine ⟨rfl, by go_grown, w.heap.size, 4, rfl, by simp, fun i hi => ?_⟩
  rw [World.cell?_alloc_at _ _ _ _ rfl]
  match i, hi with
  | 0, _ => rfl
  | 1, _ => rfl
  | 2, _ => rfl
  | 3, _ => rfl
  | n + 4, h => exact absurd h (by unfold kwords; simp)
end Go.Proofs.YticmebamclacaaaGreatDoor
