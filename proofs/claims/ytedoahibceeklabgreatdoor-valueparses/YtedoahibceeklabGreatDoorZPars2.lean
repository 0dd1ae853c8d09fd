/- Texts there and back, plainly; the law's own same at any two values. -/
import Derived.Test.YtedoahibceeklabGreatDoorZPars1

namespace Go.Proofs.YtedoahibceeklabGreatDoor
open Go.RowKit Go.Shelf
set_option linter.unusedVariables false

set_option maxRecDepth 100000 in
set_option maxHeartbeats 4000000 in
theorem parse_no1 (s S : ByteArray) (k n d : Int) (ok : Bool) (w : World) (h1 : -9223372036854775808 ≤ n) (h2 : n ≤ 9223372036854775807) (g1 : -9223372036854775808 ≤ d) (g2 : d ≤ 9223372036854775807) (hS : S.size ≤ 35184372088830)
    (GU : Hid (∀ W : World, Errs W → 8 ≤ W.heap.size → Calls Tryz.prog 30 #[.string s] W fun e w' => e = .returned (.tuple #[.agg #[.int .i64 k, .int .i64 n, .int .i64 d, .string S], .bool ok]) ∧ Below W.heap.size W w'))
    (ht : Pow w) (he : Errs w) (h8 : 8 ≤ w.heap.size) (ho : ok = false) :
    Calls Tryz.prog 16 #[.string s] w fun e w' => e = .returned (.tuple #[.agg #[.int .i64 0, .int .i64 0, .int .i64 0, .string ⟨#[]⟩], .int .i64 70]) ∧ Below w.heap.size w w' := by
  subst ho
  have HE : Hid (Errs w) := he
  clear he
  go_enter Tryz.func16, Tryz.ntmps16
  go_wp2_with fail
  refine (GU.out _ (HE.out.alloc h8 _) (by simp; omega)).mono ?_
  rintro e w1 ⟨rfl, hb1⟩
  have R1 : Hid (BlkV w1 w.heap.size 0 0 0 ⟨#[]⟩) := BlkV.below (by constructor <;> simp (maxDischargeDepth := 12) [go_sem]) hb1 (by simp)
  have B1 : Below w.heap.size w w1 := ((Below.refl _ w).alloc (Nat.le_refl _) _).trans (hb1.mono (by simp))
  have z1 : w.heap.size < w1.heap.size := by have := hb1.size; simp at this; omega
  clear hb1
  go_upto_region 2 with fail
  refine wp_world ?_
  intro W2 hW2
  have R2 : Hid (BlkV W2 w.heap.size 0 0 0 ⟨#[]⟩) := by rw [hW2]; exact R1.out.below ((Below.refl w1.heap.size w1).alloc (Nat.le_refl _) _) z1
  have B2 : Below w.heap.size w W2 := by rw [hW2]; exact B1.alloc B1.size _
  clear hW2 R1 B1 z1
  obtain ⟨r0, r1, r2, r3, r4, r5, r6, r7⟩ := R2.out
  go_wp2
  generalize hW9 : World.setCell _ _ _ = W9
  have b9 : BlkV W9 w.heap.size 0 0 0 ⟨#[]⟩ := by rw [← hW9]; exact R2.out.four
  have hB9 : Below w.heap.size w W9 := by rw [← hW9]; exact (((B2.setCell (by simp) _).setCell (by simp) _).setCell (by simp) _).setCell (by simp) _
  clear hW9
  obtain ⟨x0, x1, x2, x3, -, -, -, -⟩ := b9
  refine bodyPost_ret (by simp [results, Tryz.results16, go_sem, x0, x1, x2, x3]; try rfl) rfl ?_
  exact ⟨rfl, hB9⟩

set_option maxRecDepth 100000 in
set_option maxHeartbeats 4000000 in
theorem parse_no2 (s S : ByteArray) (k n d : Int) (ok : Bool) (w : World) (h1 : -9223372036854775808 ≤ n) (h2 : n ≤ 9223372036854775807) (g1 : -9223372036854775808 ≤ d) (g2 : d ≤ 9223372036854775807) (hS : S.size ≤ 35184372088830)
    (GU : Hid (∀ W : World, Errs W → 8 ≤ W.heap.size → Calls Tryz.prog 30 #[.string s] W fun e w' => e = .returned (.tuple #[.agg #[.int .i64 k, .int .i64 n, .int .i64 d, .string S], .bool ok]) ∧ Below W.heap.size W w'))
    (ht : Pow w) (he : Errs w) (h8 : 8 ≤ w.heap.size) (ho : ok = true) (hp : pureB k n d S = false) :
    Calls Tryz.prog 16 #[.string s] w fun e w' => e = .returned (.tuple #[.agg #[.int .i64 0, .int .i64 0, .int .i64 0, .string ⟨#[]⟩], .int .i64 70]) ∧ Below w.heap.size w w' := by
  subst ho
  have HE : Hid (Errs w) := he
  clear he
  go_enter Tryz.func16, Tryz.ntmps16
  go_wp2_with fail
  refine (GU.out _ (HE.out.alloc h8 _) (by simp; omega)).mono ?_
  rintro e w1 ⟨rfl, hb1⟩
  have R1 : Hid (BlkV w1 w.heap.size 0 0 0 ⟨#[]⟩) := BlkV.below (by constructor <;> simp (maxDischargeDepth := 12) [go_sem]) hb1 (by simp)
  have B1 : Below w.heap.size w w1 := ((Below.refl _ w).alloc (Nat.le_refl _) _).trans (hb1.mono (by simp))
  have z1 : w.heap.size < w1.heap.size := by have := hb1.size; simp at this; omega
  clear hb1
  go_wp2_with fail
  refine (pure_any k n d S _ h1 h2 g1 g2).mono ?_
  rintro e w2 ⟨rfl, hb2⟩
  rw [hp]
  have R2 : Hid (BlkV w2 w.heap.size 0 0 0 ⟨#[]⟩) := (R1.out.below ((Below.refl w1.heap.size w1).alloc (Nat.le_refl _) _) z1).below hb2 (by simp; omega)
  have V2 : Hid (BlkV w2 w1.heap.size k n d S) := BlkV.below (by constructor <;> simp (maxDischargeDepth := 12) [go_sem]) hb2 (by simp)
  have B2 : Below w.heap.size w w2 := (B1.alloc (by omega) _).trans (hb2.mono (by simp; omega))
  have z2 : w1.heap.size < w2.heap.size := by have := hb2.size; simp at this; omega
  clear R1 B1 hb2
  obtain ⟨r0, r1, r2, r3, r4, r5, r6, r7⟩ := R2.out
  go_wp2
  generalize hW9 : World.setCell _ _ _ = W9
  have b9 : BlkV W9 w.heap.size 0 0 0 ⟨#[]⟩ := by rw [← hW9]; exact R2.out.four
  have hB9 : Below w.heap.size w W9 := by rw [← hW9]; exact (((B2.setCell (by simp) _).setCell (by simp) _).setCell (by simp) _).setCell (by simp) _
  clear hW9
  obtain ⟨x0, x1, x2, x3, -, -, -, -⟩ := b9
  refine bodyPost_ret (by simp [results, Tryz.results16, go_sem, x0, x1, x2, x3]; try rfl) rfl ?_
  exact ⟨rfl, hB9⟩

set_option maxRecDepth 100000 in
set_option maxHeartbeats 4000000 in
theorem parse_no3 (s S : ByteArray) (k n d : Int) (ok : Bool) (w : World) (h1 : -9223372036854775808 ≤ n) (h2 : n ≤ 9223372036854775807) (g1 : -9223372036854775808 ≤ d) (g2 : d ≤ 9223372036854775807) (hS : S.size ≤ 35184372088830)
    (GU : Hid (∀ W : World, Errs W → 8 ≤ W.heap.size → Calls Tryz.prog 30 #[.string s] W fun e w' => e = .returned (.tuple #[.agg #[.int .i64 k, .int .i64 n, .int .i64 d, .string S], .bool ok]) ∧ Below W.heap.size W w'))
    (ht : Pow w) (he : Errs w) (h8 : 8 ≤ w.heap.size) (ho : ok = true) (hp : pureB k n d S = true) (hq : ((⟨(vtext k n d S).toArray⟩ : ByteArray).toList == s.toList) = false) :
    Calls Tryz.prog 16 #[.string s] w fun e w' => e = .returned (.tuple #[.agg #[.int .i64 0, .int .i64 0, .int .i64 0, .string ⟨#[]⟩], .int .i64 70]) ∧ Below w.heap.size w w' := by
  subst ho
  have HE : Hid (Errs w) := he
  clear he
  go_enter Tryz.func16, Tryz.ntmps16
  go_wp2_with fail
  refine (GU.out _ (HE.out.alloc h8 _) (by simp; omega)).mono ?_
  rintro e w1 ⟨rfl, hb1⟩
  have R1 : Hid (BlkV w1 w.heap.size 0 0 0 ⟨#[]⟩) := BlkV.below (by constructor <;> simp (maxDischargeDepth := 12) [go_sem]) hb1 (by simp)
  have B1 : Below w.heap.size w w1 := ((Below.refl _ w).alloc (Nat.le_refl _) _).trans (hb1.mono (by simp))
  have z1 : w.heap.size < w1.heap.size := by have := hb1.size; simp at this; omega
  clear hb1
  go_wp2_with fail
  refine (pure_any k n d S _ h1 h2 g1 g2).mono ?_
  rintro e w2 ⟨rfl, hb2⟩
  rw [hp]
  have R2 : Hid (BlkV w2 w.heap.size 0 0 0 ⟨#[]⟩) := (R1.out.below ((Below.refl w1.heap.size w1).alloc (Nat.le_refl _) _) z1).below hb2 (by simp; omega)
  have V2 : Hid (BlkV w2 w1.heap.size k n d S) := BlkV.below (by constructor <;> simp (maxDischargeDepth := 12) [go_sem]) hb2 (by simp)
  have B2 : Below w.heap.size w w2 := (B1.alloc (by omega) _).trans (hb2.mono (by simp; omega))
  have z2 : w1.heap.size < w2.heap.size := by have := hb2.size; simp at this; omega
  clear R1 B1 hb2
  obtain ⟨v0, v1, v2, v3, -, -, -, -⟩ := V2.out
  obtain ⟨T, eT⟩ : ∃ T : ByteArray, Hid ((⟨(vtext k n d S).toArray⟩ : ByteArray) = T) := ⟨_, rfl⟩
  have TX : Hid (∀ W : World, Pow W → Calls Tryz.prog 26 #[.agg #[.int .i64 k, .int .i64 n, .int .i64 d, .string S]] W fun e w' => e = .returned (.string T) ∧ Below W.heap.size W w') := fun W hW => by
    have q := text_any k n d S W h1 h2 g1 g2 hS hW
    rw [eT.out] at q
    exact q
  rw [eT.out] at hq
  clear eT
  go_wp2_with fail
  refine (TX.out _ (ht.below B2)).mono ?_
  rintro e w3 ⟨rfl, hb3⟩
  clear v0 v1 v2 v3
  have R3 : Hid (BlkV w3 w.heap.size 0 0 0 ⟨#[]⟩) := R2.out.below hb3 (by omega)
  have V3 : Hid (BlkV w3 w1.heap.size k n d S) := V2.out.below hb3 z2
  have B3 : Below w.heap.size w w3 := B2.trans (hb3.mono B2.size)
  have z3 : w1.heap.size < w3.heap.size := by have := hb3.size; omega
  clear R2 V2 B2 hb3
  obtain ⟨v0, v1, v2, v3, -, -, -, -⟩ := V3.out
  obtain ⟨r0, r1, r2, r3, r4, r5, r6, r7⟩ := R3.out
  go_wp2
  generalize hW9 : World.setCell _ _ _ = W9
  have b9 : BlkV W9 w.heap.size 0 0 0 ⟨#[]⟩ := by rw [← hW9]; exact R3.out.four
  have hB9 : Below w.heap.size w W9 := by rw [← hW9]; exact (((B3.setCell (by simp) _).setCell (by simp) _).setCell (by simp) _).setCell (by simp) _
  clear hW9
  obtain ⟨x0, x1, x2, x3, -, -, -, -⟩ := b9
  refine bodyPost_ret (by simp [results, Tryz.results16, go_sem, x0, x1, x2, x3]; try rfl) rfl ?_
  exact ⟨rfl, hB9⟩

set_option maxRecDepth 100000 in
set_option maxHeartbeats 4000000 in
theorem parse_long (s S : ByteArray) (k n d : Int) (ok : Bool) (w : World) (h1 : -9223372036854775808 ≤ n) (h2 : n ≤ 9223372036854775807) (g1 : -9223372036854775808 ≤ d) (g2 : d ≤ 9223372036854775807) (hS : S.size ≤ 35184372088830)
    (GU : Hid (∀ W : World, Errs W → 8 ≤ W.heap.size → Calls Tryz.prog 30 #[.string s] W fun e w' => e = .returned (.tuple #[.agg #[.int .i64 k, .int .i64 n, .int .i64 d, .string S], .bool ok]) ∧ Below W.heap.size W w'))
    (ht : Pow w) (he : Errs w) (h8 : 8 ≤ w.heap.size) (C : Int) (ho : ok = true) (hp : pureB k n d S = true) (hq : (⟨(vtext k n d S).toArray⟩ : ByteArray) = s) (hc : chk k n d S = C) (hC : (C != 0) = true) :
    Calls Tryz.prog 16 #[.string s] w fun e w' => e = .returned (.tuple #[.agg #[.int .i64 0, .int .i64 0, .int .i64 0, .string ⟨#[]⟩], .int .i64 C]) ∧ Below w.heap.size w w' := by
  subst ho
  have HE : Hid (Errs w) := he
  clear he
  go_enter Tryz.func16, Tryz.ntmps16
  go_wp2_with fail
  refine (GU.out _ (HE.out.alloc h8 _) (by simp; omega)).mono ?_
  rintro e w1 ⟨rfl, hb1⟩
  have R1 : Hid (BlkV w1 w.heap.size 0 0 0 ⟨#[]⟩) := BlkV.below (by constructor <;> simp (maxDischargeDepth := 12) [go_sem]) hb1 (by simp)
  have B1 : Below w.heap.size w w1 := ((Below.refl _ w).alloc (Nat.le_refl _) _).trans (hb1.mono (by simp))
  have z1 : w.heap.size < w1.heap.size := by have := hb1.size; simp at this; omega
  clear hb1
  go_wp2_with fail
  refine (pure_any k n d S _ h1 h2 g1 g2).mono ?_
  rintro e w2 ⟨rfl, hb2⟩
  rw [hp]
  have R2 : Hid (BlkV w2 w.heap.size 0 0 0 ⟨#[]⟩) := (R1.out.below ((Below.refl w1.heap.size w1).alloc (Nat.le_refl _) _) z1).below hb2 (by simp; omega)
  have V2 : Hid (BlkV w2 w1.heap.size k n d S) := BlkV.below (by constructor <;> simp (maxDischargeDepth := 12) [go_sem]) hb2 (by simp)
  have B2 : Below w.heap.size w w2 := (B1.alloc (by omega) _).trans (hb2.mono (by simp; omega))
  have z2 : w1.heap.size < w2.heap.size := by have := hb2.size; simp at this; omega
  clear R1 B1 hb2
  obtain ⟨v0, v1, v2, v3, -, -, -, -⟩ := V2.out
  obtain ⟨T, eT⟩ : ∃ T : ByteArray, Hid ((⟨(vtext k n d S).toArray⟩ : ByteArray) = T) := ⟨_, rfl⟩
  have TX : Hid (∀ W : World, Pow W → Calls Tryz.prog 26 #[.agg #[.int .i64 k, .int .i64 n, .int .i64 d, .string S]] W fun e w' => e = .returned (.string T) ∧ Below W.heap.size W w') := fun W hW => by
    have q := text_any k n d S W h1 h2 g1 g2 hS hW
    rw [eT.out] at q
    exact q
  rw [eT.out] at hq
  clear eT
  subst hq
  go_wp2_with fail
  refine (TX.out _ (ht.below B2)).mono ?_
  rintro e w3 ⟨rfl, hb3⟩
  clear v0 v1 v2 v3
  have R3 : Hid (BlkV w3 w.heap.size 0 0 0 ⟨#[]⟩) := R2.out.below hb3 (by omega)
  have V3 : Hid (BlkV w3 w1.heap.size k n d S) := V2.out.below hb3 z2
  have B3 : Below w.heap.size w w3 := B2.trans (hb3.mono B2.size)
  have z3 : w1.heap.size < w3.heap.size := by have := hb3.size; omega
  clear R2 V2 B2 hb3
  obtain ⟨v0, v1, v2, v3, -, -, -, -⟩ := V3.out
  obtain ⟨r0, r1, r2, r3, r4, r5, r6, r7⟩ := R3.out
  go_wp2_with fail
  refine (check_any k n d S _ h1 h2 g1 g2).mono ?_
  rintro e w4 ⟨rfl, hb4⟩
  rw [hc]
  clear v0 v1 v2 v3 r0 r1 r2 r3 r4 r5 r6 r7
  have R4 : Hid (BlkV w4 w.heap.size 0 0 0 ⟨#[]⟩) := R3.out.below hb4 (by omega)
  have V4 : Hid (BlkV w4 w1.heap.size k n d S) := V3.out.below hb4 z3
  have B4 : Below w.heap.size w w4 := B3.trans (hb4.mono B3.size)
  clear R3 V3 B3 hb4
  obtain ⟨v0, v1, v2, v3, -, -, -, -⟩ := V4.out
  obtain ⟨r0, r1, r2, r3, r4, r5, r6, r7⟩ := R4.out
  go_wp2
  generalize hW9 : World.setCell _ _ _ = W9
  have b9 : BlkV W9 w.heap.size 0 0 0 ⟨#[]⟩ := by rw [← hW9]; exact R4.out.four
  have hB9 : Below w.heap.size w W9 := by rw [← hW9]; exact (((B4.setCell (by simp) _).setCell (by simp) _).setCell (by simp) _).setCell (by simp) _
  clear hW9
  obtain ⟨x0, x1, x2, x3, -, -, -, -⟩ := b9
  refine bodyPost_ret (by simp [results, Tryz.results16, go_sem, x0, x1, x2, x3]; try rfl) rfl ?_
  exact ⟨rfl, hB9⟩

set_option maxRecDepth 100000 in
set_option maxHeartbeats 4000000 in
theorem parse_yes (s S : ByteArray) (k n d : Int) (ok : Bool) (w : World) (h1 : -9223372036854775808 ≤ n) (h2 : n ≤ 9223372036854775807) (g1 : -9223372036854775808 ≤ d) (g2 : d ≤ 9223372036854775807) (hS : S.size ≤ 35184372088830)
    (GU : Hid (∀ W : World, Errs W → 8 ≤ W.heap.size → Calls Tryz.prog 30 #[.string s] W fun e w' => e = .returned (.tuple #[.agg #[.int .i64 k, .int .i64 n, .int .i64 d, .string S], .bool ok]) ∧ Below W.heap.size W w'))
    (ht : Pow w) (he : Errs w) (h8 : 8 ≤ w.heap.size) (ho : ok = true) (hp : pureB k n d S = true) (hq : (⟨(vtext k n d S).toArray⟩ : ByteArray) = s) (hc : chk k n d S = 0) :
    Calls Tryz.prog 16 #[.string s] w fun e w' => e = .returned (.tuple #[.agg #[.int .i64 k, .int .i64 n, .int .i64 d, .string S], .int .i64 0]) ∧ Below w.heap.size w w' := by
  subst ho
  have HE : Hid (Errs w) := he
  clear he
  go_enter Tryz.func16, Tryz.ntmps16
  go_wp2_with fail
  refine (GU.out _ (HE.out.alloc h8 _) (by simp; omega)).mono ?_
  rintro e w1 ⟨rfl, hb1⟩
  have R1 : Hid (BlkV w1 w.heap.size 0 0 0 ⟨#[]⟩) := BlkV.below (by constructor <;> simp (maxDischargeDepth := 12) [go_sem]) hb1 (by simp)
  have B1 : Below w.heap.size w w1 := ((Below.refl _ w).alloc (Nat.le_refl _) _).trans (hb1.mono (by simp))
  have z1 : w.heap.size < w1.heap.size := by have := hb1.size; simp at this; omega
  clear hb1
  go_wp2_with fail
  refine (pure_any k n d S _ h1 h2 g1 g2).mono ?_
  rintro e w2 ⟨rfl, hb2⟩
  rw [hp]
  have R2 : Hid (BlkV w2 w.heap.size 0 0 0 ⟨#[]⟩) := (R1.out.below ((Below.refl w1.heap.size w1).alloc (Nat.le_refl _) _) z1).below hb2 (by simp; omega)
  have V2 : Hid (BlkV w2 w1.heap.size k n d S) := BlkV.below (by constructor <;> simp (maxDischargeDepth := 12) [go_sem]) hb2 (by simp)
  have B2 : Below w.heap.size w w2 := (B1.alloc (by omega) _).trans (hb2.mono (by simp; omega))
  have z2 : w1.heap.size < w2.heap.size := by have := hb2.size; simp at this; omega
  clear R1 B1 hb2
  obtain ⟨v0, v1, v2, v3, -, -, -, -⟩ := V2.out
  obtain ⟨T, eT⟩ : ∃ T : ByteArray, Hid ((⟨(vtext k n d S).toArray⟩ : ByteArray) = T) := ⟨_, rfl⟩
  have TX : Hid (∀ W : World, Pow W → Calls Tryz.prog 26 #[.agg #[.int .i64 k, .int .i64 n, .int .i64 d, .string S]] W fun e w' => e = .returned (.string T) ∧ Below W.heap.size W w') := fun W hW => by
    have q := text_any k n d S W h1 h2 g1 g2 hS hW
    rw [eT.out] at q
    exact q
  rw [eT.out] at hq
  clear eT
  subst hq
  go_wp2_with fail
  refine (TX.out _ (ht.below B2)).mono ?_
  rintro e w3 ⟨rfl, hb3⟩
  clear v0 v1 v2 v3
  have R3 : Hid (BlkV w3 w.heap.size 0 0 0 ⟨#[]⟩) := R2.out.below hb3 (by omega)
  have V3 : Hid (BlkV w3 w1.heap.size k n d S) := V2.out.below hb3 z2
  have B3 : Below w.heap.size w w3 := B2.trans (hb3.mono B2.size)
  have z3 : w1.heap.size < w3.heap.size := by have := hb3.size; omega
  clear R2 V2 B2 hb3
  obtain ⟨v0, v1, v2, v3, -, -, -, -⟩ := V3.out
  obtain ⟨r0, r1, r2, r3, r4, r5, r6, r7⟩ := R3.out
  go_wp2_with fail
  refine (check_any k n d S _ h1 h2 g1 g2).mono ?_
  rintro e w4 ⟨rfl, hb4⟩
  rw [hc]
  clear v0 v1 v2 v3 r0 r1 r2 r3 r4 r5 r6 r7
  have R4 : Hid (BlkV w4 w.heap.size 0 0 0 ⟨#[]⟩) := R3.out.below hb4 (by omega)
  have V4 : Hid (BlkV w4 w1.heap.size k n d S) := V3.out.below hb4 z3
  have B4 : Below w.heap.size w w4 := B3.trans (hb4.mono B3.size)
  clear R3 V3 B3 hb4
  obtain ⟨v0, v1, v2, v3, -, -, -, -⟩ := V4.out
  obtain ⟨r0, r1, r2, r3, r4, r5, r6, r7⟩ := R4.out
  go_wp2
  generalize hW9 : World.setCell _ _ _ = W9
  have b9 : BlkV W9 w.heap.size k n d S := by rw [← hW9]; exact R4.out.four
  have hB9 : Below w.heap.size w W9 := by rw [← hW9]; exact (((B4.setCell (by simp) _).setCell (by simp) _).setCell (by simp) _).setCell (by simp) _
  clear hW9
  obtain ⟨x0, x1, x2, x3, -, -, -, -⟩ := b9
  refine bodyPost_ret (by simp [results, Tryz.results16, go_sem, x0, x1, x2, x3]; try rfl) rfl ?_
  exact ⟨rfl, hB9⟩

/-- What Parse tells of a text. -/
def prs (l : List UInt8) : Val × Int :=
  if (gss l).2 = true ∧ pureB (gss l).1.k (gss l).1.n (gss l).1.d (gss l).1.s = true ∧ vtext (gss l).1.k (gss l).1.n (gss l).1.d (gss l).1.s = l then
    (if chk (gss l).1.k (gss l).1.n (gss l).1.d (gss l).1.s = 0 then ((gss l).1, 0) else (⟨0, 0, 0, ⟨#[]⟩⟩, chk (gss l).1.k (gss l).1.n (gss l).1.d (gss l).1.s))
  else (⟨0, 0, 0, ⟨#[]⟩⟩, 70)

theorem gss_fits (l : List UInt8) : (gss l).1.Fits := by
  unfold gss
  split
  · exact ⟨by simp, by simp, by simp, by simp⟩
  · split
    · exact ⟨(pint_fits _).1, (pint_fits _).2, by simp, by simp⟩
    · split
      · exact ⟨(pint_fits _).1, (pint_fits _).2, by simp, by simp⟩
      · exact ⟨(pint_fits _).1, (pint_fits _).2, (pint_fits _).1, (pint_fits _).2⟩
theorem gss_size (l : List UInt8) : (gss l).1.s.size ≤ l.length := by
  unfold gss
  split
  · show (outS (unqS (l.drop 1))).size ≤ l.length
    cases hu : unqS (l.drop 1) with
    | none => simp [outS, ByteArray.size]
    | some x =>
      unfold unqS at hu
      split at hu
      · have h1 := unq_len _ _ x (Nat.le_refl _) hu
        have h2 := trim_len (l.drop 1)
        have h3 : (outS (some x)).size = x.length := by simp [outS, ByteArray.size]
        have h4 : (l.drop 1).length ≤ l.length := by simp
        omega
      · cases hu
  · split
    · exact Nat.zero_le _
    · split <;> exact Nat.zero_le _

theorem parse_any (s : ByteArray) (w : World) (hs : s.size ≤ 35184372088830) (ht : Pow w) (he : Errs w) (h8 : 8 ≤ w.heap.size) :
    Calls Tryz.prog 16 #[.string s] w fun e w' => e = .returned (.tuple #[.agg #[.int .i64 (prs s.data.toList).1.k, .int .i64 (prs s.data.toList).1.n, .int .i64 (prs s.data.toList).1.d, .string (prs s.data.toList).1.s], .int .i64 (prs s.data.toList).2]) ∧ Below w.heap.size w w' := by
  have hf := gss_fits s.data.toList
  have hz := gss_size s.data.toList
  have hl : s.data.toList.length = s.size := by simp
  have GU := fun (W : World) (g1 : Errs W) (g2 : 8 ≤ W.heap.size) => guess_any s W (by omega) g1 g2
  unfold prs
  obtain ⟨g, hg⟩ : ∃ g, gss s.data.toList = g := ⟨_, rfl⟩
  rw [hg] at hf hz GU ⊢
  obtain ⟨⟨k, n, d, S⟩, ok⟩ := g
  dsimp only at hf hz GU ⊢
  cases ho : ok
  · rw [if_neg (by simp)]
    exact parse_no1 s S k n d ok w hf.n1 hf.n2 hf.d1 hf.d2 (by omega) GU ht he h8 ho
  · cases hp : pureB k n d S
    · rw [if_neg (by simp)]
      exact parse_no2 s S k n d ok w hf.n1 hf.n2 hf.d1 hf.d2 (by omega) GU ht he h8 ho hp
    · by_cases hq : vtext k n d S = s.data.toList
      · have hq' : (⟨(vtext k n d S).toArray⟩ : ByteArray) = s := (ba_eq hq.symm).symm
        rw [if_pos ⟨rfl, rfl, hq⟩]
        by_cases hc : chk k n d S = 0
        · rw [if_pos hc]
          exact parse_yes s S k n d ok w hf.n1 hf.n2 hf.d1 hf.d2 (by omega) GU ht he h8 ho hp hq' hc
        · rw [if_neg hc]
          exact parse_long s S k n d ok w hf.n1 hf.n2 hf.d1 hf.d2 (by omega) GU ht he h8 _ ho hp hq' rfl (by simpa using hc)
      · rw [if_neg (fun h => hq h.2.2)]
        exact parse_no3 s S k n d ok w hf.n1 hf.n2 hf.d1 hf.d2 (by omega) GU ht he h8 ho hp (by simp only [toList_data]; simpa using hq)

end Go.Proofs.YtedoahibceeklabGreatDoor

namespace Go.Proofs.YtedoahibceeklabGreatDoor
open Go.RowKit Go.Shelf
set_option linter.unusedVariables false

theorem empty_of {s : ByteArray} (h : s.toList = []) : s = ⟨#[]⟩ := by
  rw [toList_data] at h
  exact ba_eq h
theorem pure_of {v : Val} (h : v.may = 0) : pureB v.k v.n v.d v.s = true := by
  unfold Val.may chk at h
  split at h
  · omega
  · rename_i g
    simpa using g
theorem pref_itoa (n : Int) (r : List UInt8) : Lib.hasPrefix (Lib.itoa n ++ r) [34] = false := by
  obtain ⟨c, q, e⟩ := List.exists_cons_of_ne_nil (itoa_ne n)
  have hc := itoa_no (n := n) (c := c) (by rw [e]; simp)
  rw [e]
  simp only [Lib.hasPrefix, List.cons_append, List.isPrefixOf]
  have : (34 == c) = false := by simp; intro g; rw [← g] at hc; revert hc; decide
  simp [this]
theorem itoa_cut (n : Int) : ∀ c ∈ Lib.itoa n, c.toNat ≠ 47 := fun c hc => by have := itoa_no hc; omega
theorem suff_quote (l : List UInt8) : Lib.hasSuffix (l ++ [34]) [34] = true ∧ Lib.trimSuffix (l ++ [34]) [34] = l := by
  have h1 : Lib.hasSuffix (l ++ [34]) [34] = true := by
    unfold Lib.hasSuffix
    rw [List.isSuffixOf_iff_suffix]
    exact List.suffix_append _ _
  refine ⟨h1, ?_⟩
  unfold Lib.trimSuffix
  rw [if_pos h1]
  simp

/-- A value's text is taken for it. -/
theorem gss_text {v : Val} (h : v.may = 0) (f : v.Fits) : gss (vtext v.k v.n v.d v.s) = (v, true) := by
  obtain ⟨k, n, dd, s⟩ := v
  rcases Val.cases h with ⟨a, p, q⟩ | ⟨a, p, q⟩ | ⟨a, p, q⟩
  · dsimp only at a p q ⊢
    subst a p
    rw [empty_of q]
    have e0 : vtext 1 n 0 ⟨#[]⟩ = Lib.itoa n := by simp [vtext]
    have e1 := pref_itoa n []
    rw [List.append_nil] at e1
    rw [e0]
    unfold gss
    rw [e1, cutL_none _ (itoa_cut n), pint_of f.n1 f.n2]
    rfl
  · dsimp only at a p q ⊢
    subst a
    rw [empty_of q]
    have e0 : vtext 2 n dd ⟨#[]⟩ = Lib.itoa n ++ 47 :: Lib.itoa dd := by simp [vtext]
    rw [e0]
    unfold gss
    rw [pref_itoa, cutL_some _ _ (itoa_cut n)]
    simp only [Bool.false_eq_true, if_false, Bool.true_eq_false]
    rw [pint_of f.n1 f.n2, pint_of f.d1 f.d2]
    rfl
  · dsimp only at a p q ⊢
    subst a p q
    have e0 : vtext 3 0 0 s = 34 :: (inside s.data.toList ++ [34]) := by simp [vtext, quoted]
    rw [e0]
    unfold gss
    have e1 : Lib.hasPrefix (34 :: (inside s.data.toList ++ [34])) [34] = true := by simp [Lib.hasPrefix, List.isPrefixOf]
    obtain ⟨e2, e3⟩ := suff_quote (inside s.data.toList)
    rw [e1]
    simp only [if_true, List.drop_succ_cons, List.drop_zero]
    unfold unqS
    rw [e2, e3]
    simp only [if_true]
    rw [unq_inside]
    rfl
theorem prs_text {v : Val} (h : v.may = 0) (f : v.Fits) : prs (vtext v.k v.n v.d v.s) = (v, 0) := by
  have hp := pure_of h
  unfold Val.may at h
  unfold prs
  rw [gss_text h f]
  dsimp only
  rw [if_pos ⟨rfl, hp, rfl⟩, if_pos h]
theorem text_inj {a b : Val} (ha : a.may = 0) (hb : b.may = 0) (fa : a.Fits) (fb : b.Fits) : (vtext a.k a.n a.d a.s = vtext b.k b.n b.d b.s) ↔ sameB a.k a.n a.d a.s b.k b.n b.d b.s = true := by
  constructor
  · intro h
    have h1 := gss_text ha fa
    rw [h, gss_text hb fb] at h1
    have h2 : b = a := (Prod.mk.inj h1).1
    rw [h2]
    simp [sameB]
  · intro h
    simp [sameB] at h
    obtain ⟨h1, h2, h3, h4⟩ := h
    rw [h1, h2, h3]
    rw [toList_data, toList_data] at h4
    unfold vtext
    rw [h4]
theorem prs_fits (l : List UInt8) : (prs l).1.Fits := by
  unfold prs
  split
  · split
    · exact gss_fits l
    · exact ⟨by simp, by simp, by simp, by simp⟩
  · exact ⟨by simp, by simp, by simp, by simp⟩
/-- What is read has just this text. -/
theorem prs_back {l : List UInt8} (h : (prs l).2 = 0) : (prs l).1.may = 0 ∧ vtext (prs l).1.k (prs l).1.n (prs l).1.d (prs l).1.s = l := by
  unfold prs at h ⊢
  split at h
  · rename_i g
    rw [if_pos g]
    split at h
    · rename_i c
      rw [if_pos c]
      exact ⟨c, g.2.2⟩
    · rename_i c
      exact absurd h c
  · cases h
theorem text_len {v : Val} (h : v.may = 0) (f : v.Fits) : (vtext v.k v.n v.d v.s).length ≤ 300 := by
  have h1 := Lib.itoa_length_le v.n f.n1 f.n2
  have h2 := Lib.itoa_length_le v.d f.d1 f.d2
  have h3 := inside_len v.s.data.toList
  have h4 := chk_size h
  have h5 : v.s.data.toList.length = v.s.size := by simp
  unfold vtext
  split
  · omega
  · split
    · simp; omega
    · simp [quoted]; omega

set_option maxRecDepth 100000 in
set_option maxHeartbeats 1000000 in
theorem lsame_any (k n d : Int) (s : ByteArray) (k' n' d' : Int) (s' : ByteArray) (w : World) :
    Calls Tryz.prog 18 #[.agg #[.int .i64 k, .int .i64 n, .int .i64 d, .string s], .agg #[.int .i64 k', .int .i64 n', .int .i64 d', .string s']] w fun e w' => e = .returned (.bool (sameB k n d s k' n' d' s')) ∧ Below w.heap.size w w' := by
  by_cases hk : k = k'
  · subst hk
    by_cases hn : n = n'
    · subst hn
      by_cases hd : d = d'
      · subst hd
        go_enter Tryz.func18, Tryz.ntmps18
        go_wp2
        go_ret
        exact ⟨ret_bool (by simp [sameB]), by go_grown⟩
      · have e1 : (d == d') = false := by simpa using hd
        go_enter Tryz.func18, Tryz.ntmps18
        go_wp2
        go_ret
        exact ⟨ret_bool (by simp [sameB, hd]), by go_grown⟩
    · have e1 : (n == n') = false := by simpa using hn
      go_enter Tryz.func18, Tryz.ntmps18
      go_wp2
      go_ret
      exact ⟨ret_bool (by simp [sameB, hn]), by go_grown⟩
  · have e1 : (k == k') = false := by simpa using hk
    go_enter Tryz.func18, Tryz.ntmps18
    go_wp2
    go_ret
    exact ⟨ret_bool (by simp [sameB, hk]), by go_grown⟩


end Go.Proofs.YtedoahibceeklabGreatDoor
