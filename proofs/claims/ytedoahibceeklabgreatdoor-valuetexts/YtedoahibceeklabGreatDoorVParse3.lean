/- Parse at every text. -/
import Derived.Test.YtedoahibceeklabGreatDoorVGuess2
namespace Go.Proofs.YtedoahibceeklabGreatDoor
open Go.RowKit Go.Shelf
set_option linter.unusedVariables false

set_option maxRecDepth 100000 in
set_option maxHeartbeats 4000000 in
theorem parse_no1 (s S : ByteArray) (k n d : Int) (ok : Bool) (w : World) (h1 : -9223372036854775808 ≤ n) (h2 : n ≤ 9223372036854775807) (g1 : -9223372036854775808 ≤ d) (g2 : d ≤ 9223372036854775807) (hS : S.size ≤ 35184372088830)
    (GU : Hid (∀ W : World, Errs W → 8 ≤ W.heap.size → Calls Tryz.prog 30 #[.string s] W fun e w' => e = .returned (.tuple #[.agg #[.int .i64 k, .int .i64 n, .int .i64 d, .string S], .bool ok]) ∧ Below W.heap.size W w'))
    (ht : Pow w) (he : Errs w) (h8 : 8 ≤ w.heap.size) (ho : ok = false) :
    Calls Tryz.prog 16 #[.string s] w fun e w' => e = .returned (.tuple #[.agg #[.int .i64 0, .int .i64 0, .int .i64 0, .string ⟨#[]⟩], .int .i64 70]) ∧ Below w.heap.size w w' := by
  subst ho
  have HE : Hid (Errs w) := he
  clear he
  go_enter Tryz.func16, Tryz.ntmps16
  go_wp2_with fail
  refine (GU.out _ (HE.out.alloc h8 _) (by simp; omega)).mono ?_
  rintro e w1 ⟨rfl, hb1⟩
  have R1 : Hid (BlkV w1 w.heap.size 0 0 0 ⟨#[]⟩) := BlkV.below (by constructor <;> simp (maxDischargeDepth := 12) [go_sem]) hb1 (by simp)
  have B1 : Below w.heap.size w w1 := ((Below.refl _ w).alloc (Nat.le_refl _) _).trans (hb1.mono (by simp))
  have z1 : w.heap.size < w1.heap.size := by have := hb1.size; simp at this; omega
  clear hb1
  go_upto_region 2 with fail
  refine wp_world ?_
  intro W2 hW2
  have R2 : Hid (BlkV W2 w.heap.size 0 0 0 ⟨#[]⟩) := by rw [hW2]; exact R1.out.below ((Below.refl w1.heap.size w1).alloc (Nat.le_refl _) _) z1
  have B2 : Below w.heap.size w W2 := by rw [hW2]; exact B1.alloc B1.size _
  clear hW2 R1 B1 z1
  obtain ⟨r0, r1, r2, r3, r4, r5, r6, r7⟩ := R2.out
  go_wp2
  generalize hW9 : World.setCell _ _ _ = W9
  have b9 : BlkV W9 w.heap.size 0 0 0 ⟨#[]⟩ := by rw [← hW9]; exact R2.out.four
  have hB9 : Below w.heap.size w W9 := by rw [← hW9]; exact (((B2.setCell (by simp) _).setCell (by simp) _).setCell (by simp) _).setCell (by simp) _
  clear hW9
  obtain ⟨x0, x1, x2, x3, -, -, -, -⟩ := b9
  refine bodyPost_ret (by simp [results, Tryz.results16, go_sem, x0, x1, x2, x3]; try rfl) rfl ?_
  exact ⟨rfl, hB9⟩

set_option maxRecDepth 100000 in
set_option maxHeartbeats 4000000 in
theorem parse_no2 (s S : ByteArray) (k n d : Int) (ok : Bool) (w : World) (h1 : -9223372036854775808 ≤ n) (h2 : n ≤ 9223372036854775807) (g1 : -9223372036854775808 ≤ d) (g2 : d ≤ 9223372036854775807) (hS : S.size ≤ 35184372088830)
    (GU : Hid (∀ W : World, Errs W → 8 ≤ W.heap.size → Calls Tryz.prog 30 #[.string s] W fun e w' => e = .returned (.tuple #[.agg #[.int .i64 k, .int .i64 n, .int .i64 d, .string S], .bool ok]) ∧ Below W.heap.size W w'))
    (ht : Pow w) (he : Errs w) (h8 : 8 ≤ w.heap.size) (ho : ok = true) (hp : pureB k n d S = false) :
    Calls Tryz.prog 16 #[.string s] w fun e w' => e = .returned (.tuple #[.agg #[.int .i64 0, .int .i64 0, .int .i64 0, .string ⟨#[]⟩], .int .i64 70]) ∧ Below w.heap.size w w' := by
  subst ho
  have HE : Hid (Errs w) := he
  clear he
  go_enter Tryz.func16, Tryz.ntmps16
  go_wp2_with fail
  refine (GU.out _ (HE.out.alloc h8 _) (by simp; omega)).mono ?_
  rintro e w1 ⟨rfl, hb1⟩
  have R1 : Hid (BlkV w1 w.heap.size 0 0 0 ⟨#[]⟩) := BlkV.below (by constructor <;> simp (maxDischargeDepth := 12) [go_sem]) hb1 (by simp)
  have B1 : Below w.heap.size w w1 := ((Below.refl _ w).alloc (Nat.le_refl _) _).trans (hb1.mono (by simp))
  have z1 : w.heap.size < w1.heap.size := by have := hb1.size; simp at this; omega
  clear hb1
  go_wp2_with fail
  refine (pure_any k n d S _ h1 h2 g1 g2).mono ?_
  rintro e w2 ⟨rfl, hb2⟩
  rw [hp]
  have R2 : Hid (BlkV w2 w.heap.size 0 0 0 ⟨#[]⟩) := (R1.out.below ((Below.refl w1.heap.size w1).alloc (Nat.le_refl _) _) z1).below hb2 (by simp; omega)
  have V2 : Hid (BlkV w2 w1.heap.size k n d S) := BlkV.below (by constructor <;> simp (maxDischargeDepth := 12) [go_sem]) hb2 (by simp)
  have B2 : Below w.heap.size w w2 := (B1.alloc (by omega) _).trans (hb2.mono (by simp; omega))
  have z2 : w1.heap.size < w2.heap.size := by have := hb2.size; simp at this; omega
  clear R1 B1 hb2
  obtain ⟨r0, r1, r2, r3, r4, r5, r6, r7⟩ := R2.out
  go_wp2
  generalize hW9 : World.setCell _ _ _ = W9
  have b9 : BlkV W9 w.heap.size 0 0 0 ⟨#[]⟩ := by rw [← hW9]; exact R2.out.four
  have hB9 : Below w.heap.size w W9 := by rw [← hW9]; exact (((B2.setCell (by simp) _).setCell (by simp) _).setCell (by simp) _).setCell (by simp) _
  clear hW9
  obtain ⟨x0, x1, x2, x3, -, -, -, -⟩ := b9
  refine bodyPost_ret (by simp [results, Tryz.results16, go_sem, x0, x1, x2, x3]; try rfl) rfl ?_
  exact ⟨rfl, hB9⟩

set_option maxRecDepth 100000 in
set_option maxHeartbeats 4000000 in
theorem parse_no3 (s S : ByteArray) (k n d : Int) (ok : Bool) (w : World) (h1 : -9223372036854775808 ≤ n) (h2 : n ≤ 9223372036854775807) (g1 : -9223372036854775808 ≤ d) (g2 : d ≤ 9223372036854775807) (hS : S.size ≤ 35184372088830)
    (GU : Hid (∀ W : World, Errs W → 8 ≤ W.heap.size → Calls Tryz.prog 30 #[.string s] W fun e w' => e = .returned (.tuple #[.agg #[.int .i64 k, .int .i64 n, .int .i64 d, .string S], .bool ok]) ∧ Below W.heap.size W w'))
    (ht : Pow w) (he : Errs w) (h8 : 8 ≤ w.heap.size) (ho : ok = true) (hp : pureB k n d S = true) (hq : ((⟨(vtext k n d S).toArray⟩ : ByteArray).toList == s.toList) = false) :
    Calls Tryz.prog 16 #[.string s] w fun e w' => e = .returned (.tuple #[.agg #[.int .i64 0, .int .i64 0, .int .i64 0, .string ⟨#[]⟩], .int .i64 70]) ∧ Below w.heap.size w w' := by
  subst ho
  have HE : Hid (Errs w) := he
  clear he
  go_enter Tryz.func16, Tryz.ntmps16
  go_wp2_with fail
  refine (GU.out _ (HE.out.alloc h8 _) (by simp; omega)).mono ?_
  rintro e w1 ⟨rfl, hb1⟩
  have R1 : Hid (BlkV w1 w.heap.size 0 0 0 ⟨#[]⟩) := BlkV.below (by constructor <;> simp (maxDischargeDepth := 12) [go_sem]) hb1 (by simp)
  have B1 : Below w.heap.size w w1 := ((Below.refl _ w).alloc (Nat.le_refl _) _).trans (hb1.mono (by simp))
  have z1 : w.heap.size < w1.heap.size := by have := hb1.size; simp at this; omega
  clear hb1
  go_wp2_with fail
  refine (pure_any k n d S _ h1 h2 g1 g2).mono ?_
  rintro e w2 ⟨rfl, hb2⟩
  rw [hp]
  have R2 : Hid (BlkV w2 w.heap.size 0 0 0 ⟨#[]⟩) := (R1.out.below ((Below.refl w1.heap.size w1).alloc (Nat.le_refl _) _) z1).below hb2 (by simp; omega)
  have V2 : Hid (BlkV w2 w1.heap.size k n d S) := BlkV.below (by constructor <;> simp (maxDischargeDepth := 12) [go_sem]) hb2 (by simp)
  have B2 : Below w.heap.size w w2 := (B1.alloc (by omega) _).trans (hb2.mono (by simp; omega))
  have z2 : w1.heap.size < w2.heap.size := by have := hb2.size; simp at this; omega
  clear R1 B1 hb2
  obtain ⟨v0, v1, v2, v3, -, -, -, -⟩ := V2.out
  obtain ⟨T, eT⟩ : ∃ T : ByteArray, Hid ((⟨(vtext k n d S).toArray⟩ : ByteArray) = T) := ⟨_, rfl⟩
  have TX : Hid (∀ W : World, Pow W → Calls Tryz.prog 26 #[.agg #[.int .i64 k, .int .i64 n, .int .i64 d, .string S]] W fun e w' => e = .returned (.string T) ∧ Below W.heap.size W w') := fun W hW => by
    have q := text_any k n d S W h1 h2 g1 g2 hS hW
    rw [eT.out] at q
    exact q
  rw [eT.out] at hq
  clear eT
  go_wp2_with fail
  refine (TX.out _ (ht.below B2)).mono ?_
  rintro e w3 ⟨rfl, hb3⟩
  clear v0 v1 v2 v3
  have R3 : Hid (BlkV w3 w.heap.size 0 0 0 ⟨#[]⟩) := R2.out.below hb3 (by omega)
  have V3 : Hid (BlkV w3 w1.heap.size k n d S) := V2.out.below hb3 z2
  have B3 : Below w.heap.size w w3 := B2.trans (hb3.mono B2.size)
  have z3 : w1.heap.size < w3.heap.size := by have := hb3.size; omega
  clear R2 V2 B2 hb3
  obtain ⟨v0, v1, v2, v3, -, -, -, -⟩ := V3.out
  obtain ⟨r0, r1, r2, r3, r4, r5, r6, r7⟩ := R3.out
  go_wp2
  generalize hW9 : World.setCell _ _ _ = W9
  have b9 : BlkV W9 w.heap.size 0 0 0 ⟨#[]⟩ := by rw [← hW9]; exact R3.out.four
  have hB9 : Below w.heap.size w W9 := by rw [← hW9]; exact (((B3.setCell (by simp) _).setCell (by simp) _).setCell (by simp) _).setCell (by simp) _
  clear hW9
  obtain ⟨x0, x1, x2, x3, -, -, -, -⟩ := b9
  refine bodyPost_ret (by simp [results, Tryz.results16, go_sem, x0, x1, x2, x3]; try rfl) rfl ?_
  exact ⟨rfl, hB9⟩

set_option maxRecDepth 100000 in
set_option maxHeartbeats 4000000 in
theorem parse_long (s S : ByteArray) (k n d : Int) (ok : Bool) (w : World) (h1 : -9223372036854775808 ≤ n) (h2 : n ≤ 9223372036854775807) (g1 : -9223372036854775808 ≤ d) (g2 : d ≤ 9223372036854775807) (hS : S.size ≤ 35184372088830)
    (GU : Hid (∀ W : World, Errs W → 8 ≤ W.heap.size → Calls Tryz.prog 30 #[.string s] W fun e w' => e = .returned (.tuple #[.agg #[.int .i64 k, .int .i64 n, .int .i64 d, .string S], .bool ok]) ∧ Below W.heap.size W w'))
    (ht : Pow w) (he : Errs w) (h8 : 8 ≤ w.heap.size) (C : Int) (ho : ok = true) (hp : pureB k n d S = true) (hq : (⟨(vtext k n d S).toArray⟩ : ByteArray) = s) (hc : chk k n d S = C) (hC : (C != 0) = true) :
    Calls Tryz.prog 16 #[.string s] w fun e w' => e = .returned (.tuple #[.agg #[.int .i64 0, .int .i64 0, .int .i64 0, .string ⟨#[]⟩], .int .i64 C]) ∧ Below w.heap.size w w' := by
  subst ho
  have HE : Hid (Errs w) := he
  clear he
  go_enter Tryz.func16, Tryz.ntmps16
  go_wp2_with fail
  refine (GU.out _ (HE.out.alloc h8 _) (by simp; omega)).mono ?_
  rintro e w1 ⟨rfl, hb1⟩
  have R1 : Hid (BlkV w1 w.heap.size 0 0 0 ⟨#[]⟩) := BlkV.below (by constructor <;> simp (maxDischargeDepth := 12) [go_sem]) hb1 (by simp)
  have B1 : Below w.heap.size w w1 := ((Below.refl _ w).alloc (Nat.le_refl _) _).trans (hb1.mono (by simp))
  have z1 : w.heap.size < w1.heap.size := by have := hb1.size; simp at this; omega
  clear hb1
  go_wp2_with fail
  refine (pure_any k n d S _ h1 h2 g1 g2).mono ?_
  rintro e w2 ⟨rfl, hb2⟩
  rw [hp]
  have R2 : Hid (BlkV w2 w.heap.size 0 0 0 ⟨#[]⟩) := (R1.out.below ((Below.refl w1.heap.size w1).alloc (Nat.le_refl _) _) z1).below hb2 (by simp; omega)
  have V2 : Hid (BlkV w2 w1.heap.size k n d S) := BlkV.below (by constructor <;> simp (maxDischargeDepth := 12) [go_sem]) hb2 (by simp)
  have B2 : Below w.heap.size w w2 := (B1.alloc (by omega) _).trans (hb2.mono (by simp; omega))
  have z2 : w1.heap.size < w2.heap.size := by have := hb2.size; simp at this; omega
  clear R1 B1 hb2
  obtain ⟨v0, v1, v2, v3, -, -, -, -⟩ := V2.out
  obtain ⟨T, eT⟩ : ∃ T : ByteArray, Hid ((⟨(vtext k n d S).toArray⟩ : ByteArray) = T) := ⟨_, rfl⟩
  have TX : Hid (∀ W : World, Pow W → Calls Tryz.prog 26 #[.agg #[.int .i64 k, .int .i64 n, .int .i64 d, .string S]] W fun e w' => e = .returned (.string T) ∧ Below W.heap.size W w') := fun W hW => by
    have q := text_any k n d S W h1 h2 g1 g2 hS hW
    rw [eT.out] at q
    exact q
  rw [eT.out] at hq
  clear eT
  subst hq
  go_wp2_with fail
  refine (TX.out _ (ht.below B2)).mono ?_
  rintro e w3 ⟨rfl, hb3⟩
  clear v0 v1 v2 v3
  have R3 : Hid (BlkV w3 w.heap.size 0 0 0 ⟨#[]⟩) := R2.out.below hb3 (by omega)
  have V3 : Hid (BlkV w3 w1.heap.size k n d S) := V2.out.below hb3 z2
  have B3 : Below w.heap.size w w3 := B2.trans (hb3.mono B2.size)
  have z3 : w1.heap.size < w3.heap.size := by have := hb3.size; omega
  clear R2 V2 B2 hb3
  obtain ⟨v0, v1, v2, v3, -, -, -, -⟩ := V3.out
  obtain ⟨r0, r1, r2, r3, r4, r5, r6, r7⟩ := R3.out
  go_wp2_with fail
  refine (check_any k n d S _ h1 h2 g1 g2).mono ?_
  rintro e w4 ⟨rfl, hb4⟩
  rw [hc]
  clear v0 v1 v2 v3 r0 r1 r2 r3 r4 r5 r6 r7
  have R4 : Hid (BlkV w4 w.heap.size 0 0 0 ⟨#[]⟩) := R3.out.below hb4 (by omega)
  have V4 : Hid (BlkV w4 w1.heap.size k n d S) := V3.out.below hb4 z3
  have B4 : Below w.heap.size w w4 := B3.trans (hb4.mono B3.size)
  clear R3 V3 B3 hb4
  obtain ⟨v0, v1, v2, v3, -, -, -, -⟩ := V4.out
  obtain ⟨r0, r1, r2, r3, r4, r5, r6, r7⟩ := R4.out
  go_wp2
  generalize hW9 : World.setCell _ _ _ = W9
  have b9 : BlkV W9 w.heap.size 0 0 0 ⟨#[]⟩ := by rw [← hW9]; exact R4.out.four
  have hB9 : Below w.heap.size w W9 := by rw [← hW9]; exact (((B4.setCell (by simp) _).setCell (by simp) _).setCell (by simp) _).setCell (by simp) _
  clear hW9
  obtain ⟨x0, x1, x2, x3, -, -, -, -⟩ := b9
  refine bodyPost_ret (by simp [results, Tryz.results16, go_sem, x0, x1, x2, x3]; try rfl) rfl ?_
  exact ⟨rfl, hB9⟩

set_option maxRecDepth 100000 in
set_option maxHeartbeats 4000000 in
theorem parse_yes (s S : ByteArray) (k n d : Int) (ok : Bool) (w : World) (h1 : -9223372036854775808 ≤ n) (h2 : n ≤ 9223372036854775807) (g1 : -9223372036854775808 ≤ d) (g2 : d ≤ 9223372036854775807) (hS : S.size ≤ 35184372088830)
    (GU : Hid (∀ W : World, Errs W → 8 ≤ W.heap.size → Calls Tryz.prog 30 #[.string s] W fun e w' => e = .returned (.tuple #[.agg #[.int .i64 k, .int .i64 n, .int .i64 d, .string S], .bool ok]) ∧ Below W.heap.size W w'))
    (ht : Pow w) (he : Errs w) (h8 : 8 ≤ w.heap.size) (ho : ok = true) (hp : pureB k n d S = true) (hq : (⟨(vtext k n d S).toArray⟩ : ByteArray) = s) (hc : chk k n d S = 0) :
    Calls Tryz.prog 16 #[.string s] w fun e w' => e = .returned (.tuple #[.agg #[.int .i64 k, .int .i64 n, .int .i64 d, .string S], .int .i64 0]) ∧ Below w.heap.size w w' := by
  subst ho
  have HE : Hid (Errs w) := he
  clear he
  go_enter Tryz.func16, Tryz.ntmps16
  go_wp2_with fail
  refine (GU.out _ (HE.out.alloc h8 _) (by simp; omega)).mono ?_
  rintro e w1 ⟨rfl, hb1⟩
  have R1 : Hid (BlkV w1 w.heap.size 0 0 0 ⟨#[]⟩) := BlkV.below (by constructor <;> simp (maxDischargeDepth := 12) [go_sem]) hb1 (by simp)
  have B1 : Below w.heap.size w w1 := ((Below.refl _ w).alloc (Nat.le_refl _) _).trans (hb1.mono (by simp))
  have z1 : w.heap.size < w1.heap.size := by have := hb1.size; simp at this; omega
  clear hb1
  go_wp2_with fail
  refine (pure_any k n d S _ h1 h2 g1 g2).mono ?_
  rintro e w2 ⟨rfl, hb2⟩
  rw [hp]
  have R2 : Hid (BlkV w2 w.heap.size 0 0 0 ⟨#[]⟩) := (R1.out.below ((Below.refl w1.heap.size w1).alloc (Nat.le_refl _) _) z1).below hb2 (by simp; omega)
  have V2 : Hid (BlkV w2 w1.heap.size k n d S) := BlkV.below (by constructor <;> simp (maxDischargeDepth := 12) [go_sem]) hb2 (by simp)
  have B2 : Below w.heap.size w w2 := (B1.alloc (by omega) _).trans (hb2.mono (by simp; omega))
  have z2 : w1.heap.size < w2.heap.size := by have := hb2.size; simp at this; omega
  clear R1 B1 hb2
  obtain ⟨v0, v1, v2, v3, -, -, -, -⟩ := V2.out
  obtain ⟨T, eT⟩ : ∃ T : ByteArray, Hid ((⟨(vtext k n d S).toArray⟩ : ByteArray) = T) := ⟨_, rfl⟩
  have TX : Hid (∀ W : World, Pow W → Calls Tryz.prog 26 #[.agg #[.int .i64 k, .int .i64 n, .int .i64 d, .string S]] W fun e w' => e = .returned (.string T) ∧ Below W.heap.size W w') := fun W hW => by
    have q := text_any k n d S W h1 h2 g1 g2 hS hW
    rw [eT.out] at q
    exact q
  rw [eT.out] at hq
  clear eT
  subst hq
  go_wp2_with fail
  refine (TX.out _ (ht.below B2)).mono ?_
  rintro e w3 ⟨rfl, hb3⟩
  clear v0 v1 v2 v3
  have R3 : Hid (BlkV w3 w.heap.size 0 0 0 ⟨#[]⟩) := R2.out.below hb3 (by omega)
  have V3 : Hid (BlkV w3 w1.heap.size k n d S) := V2.out.below hb3 z2
  have B3 : Below w.heap.size w w3 := B2.trans (hb3.mono B2.size)
  have z3 : w1.heap.size < w3.heap.size := by have := hb3.size; omega
  clear R2 V2 B2 hb3
  obtain ⟨v0, v1, v2, v3, -, -, -, -⟩ := V3.out
  obtain ⟨r0, r1, r2, r3, r4, r5, r6, r7⟩ := R3.out
  go_wp2_with fail
  refine (check_any k n d S _ h1 h2 g1 g2).mono ?_
  rintro e w4 ⟨rfl, hb4⟩
  rw [hc]
  clear v0 v1 v2 v3 r0 r1 r2 r3 r4 r5 r6 r7
  have R4 : Hid (BlkV w4 w.heap.size 0 0 0 ⟨#[]⟩) := R3.out.below hb4 (by omega)
  have V4 : Hid (BlkV w4 w1.heap.size k n d S) := V3.out.below hb4 z3
  have B4 : Below w.heap.size w w4 := B3.trans (hb4.mono B3.size)
  clear R3 V3 B3 hb4
  obtain ⟨v0, v1, v2, v3, -, -, -, -⟩ := V4.out
  obtain ⟨r0, r1, r2, r3, r4, r5, r6, r7⟩ := R4.out
  go_wp2
  generalize hW9 : World.setCell _ _ _ = W9
  have b9 : BlkV W9 w.heap.size k n d S := by rw [← hW9]; exact R4.out.four
  have hB9 : Below w.heap.size w W9 := by rw [← hW9]; exact (((B4.setCell (by simp) _).setCell (by simp) _).setCell (by simp) _).setCell (by simp) _
  clear hW9
  obtain ⟨x0, x1, x2, x3, -, -, -, -⟩ := b9
  refine bodyPost_ret (by simp [results, Tryz.results16, go_sem, x0, x1, x2, x3]; try rfl) rfl ?_
  exact ⟨rfl, hB9⟩

/-- What Parse tells of a text. -/
def prs (l : List UInt8) : Val × Int :=
  if (gss l).2 = true ∧ pureB (gss l).1.k (gss l).1.n (gss l).1.d (gss l).1.s = true ∧ vtext (gss l).1.k (gss l).1.n (gss l).1.d (gss l).1.s = l then
    (if chk (gss l).1.k (gss l).1.n (gss l).1.d (gss l).1.s = 0 then ((gss l).1, 0) else (⟨0, 0, 0, ⟨#[]⟩⟩, chk (gss l).1.k (gss l).1.n (gss l).1.d (gss l).1.s))
  else (⟨0, 0, 0, ⟨#[]⟩⟩, 70)

theorem gss_fits (l : List UInt8) : (gss l).1.Fits := by
  unfold gss
  split
  · exact ⟨by simp, by simp, by simp, by simp⟩
  · split
    · exact ⟨(pint_fits _).1, (pint_fits _).2, by simp, by simp⟩
    · split
      · exact ⟨(pint_fits _).1, (pint_fits _).2, by simp, by simp⟩
      · exact ⟨(pint_fits _).1, (pint_fits _).2, (pint_fits _).1, (pint_fits _).2⟩
theorem gss_size (l : List UInt8) : (gss l).1.s.size ≤ l.length := by
  unfold gss
  split
  · show (outS (unqS (l.drop 1))).size ≤ l.length
    cases hu : unqS (l.drop 1) with
    | none => simp [outS, ByteArray.size]
    | some x =>
      unfold unqS at hu
      split at hu
      · have h1 := unq_len _ _ x (Nat.le_refl _) hu
        have h2 := trim_len (l.drop 1)
        have h3 : (outS (some x)).size = x.length := by simp [outS, ByteArray.size]
        have h4 : (l.drop 1).length ≤ l.length := by simp
        omega
      · cases hu
  · split
    · exact Nat.zero_le _
    · split <;> exact Nat.zero_le _

theorem parse_any (s : ByteArray) (w : World) (hs : s.size ≤ 35184372088830) (ht : Pow w) (he : Errs w) (h8 : 8 ≤ w.heap.size) :
    Calls Tryz.prog 16 #[.string s] w fun e w' => e = .returned (.tuple #[.agg #[.int .i64 (prs s.data.toList).1.k, .int .i64 (prs s.data.toList).1.n, .int .i64 (prs s.data.toList).1.d, .string (prs s.data.toList).1.s], .int .i64 (prs s.data.toList).2]) ∧ Below w.heap.size w w' := by
  have hf := gss_fits s.data.toList
  have hz := gss_size s.data.toList
  have hl : s.data.toList.length = s.size := by simp
  have GU := fun (W : World) (g1 : Errs W) (g2 : 8 ≤ W.heap.size) => guess_any s W (by omega) g1 g2
  unfold prs
  obtain ⟨g, hg⟩ : ∃ g, gss s.data.toList = g := ⟨_, rfl⟩
  rw [hg] at hf hz GU ⊢
  obtain ⟨⟨k, n, d, S⟩, ok⟩ := g
  dsimp only at hf hz GU ⊢
  cases ho : ok
  · rw [if_neg (by simp)]
    exact parse_no1 s S k n d ok w hf.n1 hf.n2 hf.d1 hf.d2 (by omega) GU ht he h8 ho
  · cases hp : pureB k n d S
    · rw [if_neg (by simp)]
      exact parse_no2 s S k n d ok w hf.n1 hf.n2 hf.d1 hf.d2 (by omega) GU ht he h8 ho hp
    · by_cases hq : vtext k n d S = s.data.toList
      · have hq' : (⟨(vtext k n d S).toArray⟩ : ByteArray) = s := (ba_eq hq.symm).symm
        rw [if_pos ⟨rfl, rfl, hq⟩]
        by_cases hc : chk k n d S = 0
        · rw [if_pos hc]
          exact parse_yes s S k n d ok w hf.n1 hf.n2 hf.d1 hf.d2 (by omega) GU ht he h8 ho hp hq' hc
        · rw [if_neg hc]
          exact parse_long s S k n d ok w hf.n1 hf.n2 hf.d1 hf.d2 (by omega) GU ht he h8 _ ho hp hq' rfl (by simpa using hc)
      · rw [if_neg (fun h => hq h.2.2)]
        exact parse_no3 s S k n d ok w hf.n1 hf.n2 hf.d1 hf.d2 (by omega) GU ht he h8 ho hp (by simp only [toList_data]; simpa using hq)

end Go.Proofs.YtedoahibceeklabGreatDoor
