/- The document's Reckon at two values of one kind. -/
import Derived.Test.YtedoahibceeklaaGreatDoorVReck1
import Derived.Test.YtedoahibceeklaaGreatDoorVCheck0
import Derived.Test.YtedoahibceeklaaGreatDoorRef2
import Derived.Deep.DeepCutAuto

namespace Go.Proofs.YtedoahibceeklaaGreatDoor
open Go.RowKit Go.Shelf

set_option maxRecDepth 100000 in
set_option maxHeartbeats 2000000 in
theorem drk_chk1 (m k n d : Int) (s : ByteArray) (k' n' d' : Int) (s' : ByteArray) (w : World) (h1 : -9223372036854775808 ≤ n) (h2 : n ≤ 9223372036854775807) (g1 : -9223372036854775808 ≤ d) (g2 : d ≤ 9223372036854775807) (_h1' : -9223372036854775808 ≤ n') (_h2' : n' ≤ 9223372036854775807) (_g1' : -9223372036854775808 ≤ d') (_g2' : d' ≤ 9223372036854775807) (c1 : (chk k n d s != 0) = true) :
    Calls Tryz.prog 22 #[.int .i64 m, .agg #[.int .i64 k, .int .i64 n, .int .i64 d, .string s], .agg #[.int .i64 k', .int .i64 n', .int .i64 d', .string s']] w fun e w' => e = .returned (.tuple #[.agg #[.int .i64 (0), .int .i64 (0), .int .i64 (0), .string ⟨#[]⟩], .int .i64 (chk k n d s)]) ∧ Below w.heap.size w w' := by
  go_enter Tryz.func22, Tryz.ntmps22
  go_upto_region 1 with fail
  refine wp_world ?_
  intro W0 hW0
  have A0 : Hid (BlkV W0 w.heap.size k n d s) := by rw [hW0]; constructor <;> simp (maxDischargeDepth := 12) [go_sem]
  have B0 : Hid (BlkV W0 (w.heap.size + 1) k' n' d' s') := by rw [hW0]; constructor <;> simp (maxDischargeDepth := 12) [go_sem]
  have R0 : Hid (BlkV W0 (w.heap.size + 1 + 1) 0 0 0 ⟨#[]⟩) := by rw [hW0]; constructor <;> simp (maxDischargeDepth := 12) [go_sem]
  have z0 : w.heap.size + 1 + 1 < W0.heap.size := by rw [hW0]; simp
  have K0 : Below w.heap.size w W0 := by rw [hW0]; exact (by repeat' (first | (with_reducible exact Below.refl _ _) | (with_reducible assumption) | (with_reducible refine bdrewN _ ?_) | (with_reducible refine Below.alloc ?_ ?_ _) | (with_reducible refine Below.setCell ?_ ?_ _) | (with_reducible refine Below.drew ?_) | go_size | (simp; omega)))
  clear hW0
  obtain ⟨a0, a1, a2, a3, -, -, -, -⟩ := A0.out
  go_wp2_with fail
  refine (rcheck_any k n d s _ h1 h2 g1 g2).mono ?_
  rintro e w1 ⟨rfl, hb1⟩
  clear a0 a1 a2 a3
  have A1 : Hid (BlkV w1 w.heap.size k n d s) := A0.out.below hb1 (by omega)
  have B1 : Hid (BlkV w1 (w.heap.size + 1) k' n' d' s') := B0.out.below hb1 (by omega)
  have R1 : Hid (BlkV w1 (w.heap.size + 1 + 1) 0 0 0 ⟨#[]⟩) := R0.out.below hb1 z0
  have z1 : w.heap.size + 1 + 1 < w1.heap.size := by have := hb1.size; omega
  have K1 : Below w.heap.size w w1 := K0.trans (hb1.mono K0.size)
  clear A0 B0 R0 z0 K0 hb1
  obtain ⟨r0, r1, r2, r3, r4, r5, r6, r7⟩ := R1.out
  go_wp2
  generalize hW9 : World.setCell _ _ _ = W9
  have b9 : BlkV W9 (w.heap.size + 1 + 1) 0 0 0 ⟨#[]⟩ := by rw [← hW9]; exact R1.out.four
  have hB9 : Below w.heap.size w W9 := by rw [← hW9]; exact (by repeat' (first | (with_reducible exact Below.refl _ _) | (with_reducible assumption) | (with_reducible refine bdrewN _ ?_) | (with_reducible refine Below.alloc ?_ ?_ _) | (with_reducible refine Below.setCell ?_ ?_ _) | (with_reducible refine Below.drew ?_) | go_size | (simp; omega)))
  clear hW9
  obtain ⟨x0, x1, x2, x3, -, -, -, -⟩ := b9
  refine bodyPost_ret (by simp [results, Tryz.results22, go_sem, x0, x1, x2, x3]; try rfl) rfl ?_
  exact ⟨rfl, hB9⟩

set_option maxRecDepth 100000 in
set_option maxHeartbeats 2000000 in
theorem drk_chk2 (m k n d : Int) (s : ByteArray) (k' n' d' : Int) (s' : ByteArray) (w : World) (h1 : -9223372036854775808 ≤ n) (h2 : n ≤ 9223372036854775807) (g1 : -9223372036854775808 ≤ d) (g2 : d ≤ 9223372036854775807) (h1' : -9223372036854775808 ≤ n') (h2' : n' ≤ 9223372036854775807) (g1' : -9223372036854775808 ≤ d') (g2' : d' ≤ 9223372036854775807) (c1 : chk k n d s = 0) (c2 : (chk k' n' d' s' != 0) = true) :
    Calls Tryz.prog 22 #[.int .i64 m, .agg #[.int .i64 k, .int .i64 n, .int .i64 d, .string s], .agg #[.int .i64 k', .int .i64 n', .int .i64 d', .string s']] w fun e w' => e = .returned (.tuple #[.agg #[.int .i64 (0), .int .i64 (0), .int .i64 (0), .string ⟨#[]⟩], .int .i64 (chk k' n' d' s')]) ∧ Below w.heap.size w w' := by
  go_enter Tryz.func22, Tryz.ntmps22
  go_upto_region 1 with fail
  refine wp_world ?_
  intro W0 hW0
  have A0 : Hid (BlkV W0 w.heap.size k n d s) := by rw [hW0]; constructor <;> simp (maxDischargeDepth := 12) [go_sem]
  have B0 : Hid (BlkV W0 (w.heap.size + 1) k' n' d' s') := by rw [hW0]; constructor <;> simp (maxDischargeDepth := 12) [go_sem]
  have R0 : Hid (BlkV W0 (w.heap.size + 1 + 1) 0 0 0 ⟨#[]⟩) := by rw [hW0]; constructor <;> simp (maxDischargeDepth := 12) [go_sem]
  have z0 : w.heap.size + 1 + 1 < W0.heap.size := by rw [hW0]; simp
  have K0 : Below w.heap.size w W0 := by rw [hW0]; exact (by repeat' (first | (with_reducible exact Below.refl _ _) | (with_reducible assumption) | (with_reducible refine bdrewN _ ?_) | (with_reducible refine Below.alloc ?_ ?_ _) | (with_reducible refine Below.setCell ?_ ?_ _) | (with_reducible refine Below.drew ?_) | go_size | (simp; omega)))
  clear hW0
  obtain ⟨a0, a1, a2, a3, -, -, -, -⟩ := A0.out
  go_wp2_with fail
  refine (rcheck_any k n d s _ h1 h2 g1 g2).mono ?_
  rintro e w1 ⟨rfl, hb1⟩
  clear a0 a1 a2 a3
  have A1 : Hid (BlkV w1 w.heap.size k n d s) := A0.out.below hb1 (by omega)
  have B1 : Hid (BlkV w1 (w.heap.size + 1) k' n' d' s') := B0.out.below hb1 (by omega)
  have R1 : Hid (BlkV w1 (w.heap.size + 1 + 1) 0 0 0 ⟨#[]⟩) := R0.out.below hb1 z0
  have z1 : w.heap.size + 1 + 1 < w1.heap.size := by have := hb1.size; omega
  have K1 : Below w.heap.size w w1 := K0.trans (hb1.mono K0.size)
  clear A0 B0 R0 z0 K0 hb1
  rw [c1]
  obtain ⟨a0, a1, a2, a3, -, -, -, -⟩ := B1.out
  go_wp2_with fail
  refine (rcheck_any k' n' d' s' _ h1' h2' g1' g2').mono ?_
  rintro e w2 ⟨rfl, hb2⟩
  clear a0 a1 a2 a3
  have A2 : Hid (BlkV w2 w.heap.size k n d s) := A1.out.below hb2 (by omega)
  have B2 : Hid (BlkV w2 (w.heap.size + 1) k' n' d' s') := B1.out.below hb2 (by omega)
  have R2 : Hid (BlkV w2 (w.heap.size + 1 + 1) 0 0 0 ⟨#[]⟩) := R1.out.below hb2 z1
  have z2 : w.heap.size + 1 + 1 < w2.heap.size := by have := hb2.size; omega
  have K2 : Below w.heap.size w w2 := K1.trans (hb2.mono K1.size)
  clear A1 B1 R1 z1 K1 hb2
  obtain ⟨r0, r1, r2, r3, r4, r5, r6, r7⟩ := R2.out
  go_wp2
  generalize hW9 : World.setCell _ _ _ = W9
  have b9 : BlkV W9 (w.heap.size + 1 + 1) 0 0 0 ⟨#[]⟩ := by rw [← hW9]; exact R2.out.four
  have hB9 : Below w.heap.size w W9 := by rw [← hW9]; exact (by repeat' (first | (with_reducible exact Below.refl _ _) | (with_reducible assumption) | (with_reducible refine bdrewN _ ?_) | (with_reducible refine Below.alloc ?_ ?_ _) | (with_reducible refine Below.setCell ?_ ?_ _) | (with_reducible refine Below.drew ?_) | go_size | (simp; omega)))
  clear hW9
  obtain ⟨x0, x1, x2, x3, -, -, -, -⟩ := b9
  refine bodyPost_ret (by simp [results, Tryz.results22, go_sem, x0, x1, x2, x3]; try rfl) rfl ?_
  exact ⟨rfl, hB9⟩

set_option maxRecDepth 100000 in
set_option maxHeartbeats 2000000 in
theorem drk_kind1 (m k n d : Int) (s : ByteArray) (k' n' d' : Int) (s' : ByteArray) (w : World) (h1 : -9223372036854775808 ≤ n) (h2 : n ≤ 9223372036854775807) (g1 : -9223372036854775808 ≤ d) (g2 : d ≤ 9223372036854775807) (h1' : -9223372036854775808 ≤ n') (h2' : n' ≤ 9223372036854775807) (g1' : -9223372036854775808 ≤ d') (g2' : d' ≤ 9223372036854775807) (c1 : chk k n d s = 0) (c2 : chk k' n' d' s' = 0) (hk : (k != k') = true) :
    Calls Tryz.prog 22 #[.int .i64 m, .agg #[.int .i64 k, .int .i64 n, .int .i64 d, .string s], .agg #[.int .i64 k', .int .i64 n', .int .i64 d', .string s']] w fun e w' => e = .returned (.tuple #[.agg #[.int .i64 (0), .int .i64 (0), .int .i64 (0), .string ⟨#[]⟩], .int .i64 (20)]) ∧ Below w.heap.size w w' := by
  go_enter Tryz.func22, Tryz.ntmps22
  go_upto_region 1 with fail
  refine wp_world ?_
  intro W0 hW0
  have A0 : Hid (BlkV W0 w.heap.size k n d s) := by rw [hW0]; constructor <;> simp (maxDischargeDepth := 12) [go_sem]
  have B0 : Hid (BlkV W0 (w.heap.size + 1) k' n' d' s') := by rw [hW0]; constructor <;> simp (maxDischargeDepth := 12) [go_sem]
  have R0 : Hid (BlkV W0 (w.heap.size + 1 + 1) 0 0 0 ⟨#[]⟩) := by rw [hW0]; constructor <;> simp (maxDischargeDepth := 12) [go_sem]
  have z0 : w.heap.size + 1 + 1 < W0.heap.size := by rw [hW0]; simp
  have K0 : Below w.heap.size w W0 := by rw [hW0]; exact (by repeat' (first | (with_reducible exact Below.refl _ _) | (with_reducible assumption) | (with_reducible refine bdrewN _ ?_) | (with_reducible refine Below.alloc ?_ ?_ _) | (with_reducible refine Below.setCell ?_ ?_ _) | (with_reducible refine Below.drew ?_) | go_size | (simp; omega)))
  clear hW0
  obtain ⟨a0, a1, a2, a3, -, -, -, -⟩ := A0.out
  go_wp2_with fail
  refine (rcheck_any k n d s _ h1 h2 g1 g2).mono ?_
  rintro e w1 ⟨rfl, hb1⟩
  clear a0 a1 a2 a3
  have A1 : Hid (BlkV w1 w.heap.size k n d s) := A0.out.below hb1 (by omega)
  have B1 : Hid (BlkV w1 (w.heap.size + 1) k' n' d' s') := B0.out.below hb1 (by omega)
  have R1 : Hid (BlkV w1 (w.heap.size + 1 + 1) 0 0 0 ⟨#[]⟩) := R0.out.below hb1 z0
  have z1 : w.heap.size + 1 + 1 < w1.heap.size := by have := hb1.size; omega
  have K1 : Below w.heap.size w w1 := K0.trans (hb1.mono K0.size)
  clear A0 B0 R0 z0 K0 hb1
  rw [c1]
  obtain ⟨a0, a1, a2, a3, -, -, -, -⟩ := B1.out
  go_wp2_with fail
  refine (rcheck_any k' n' d' s' _ h1' h2' g1' g2').mono ?_
  rintro e w2 ⟨rfl, hb2⟩
  clear a0 a1 a2 a3
  have A2 : Hid (BlkV w2 w.heap.size k n d s) := A1.out.below hb2 (by omega)
  have B2 : Hid (BlkV w2 (w.heap.size + 1) k' n' d' s') := B1.out.below hb2 (by omega)
  have R2 : Hid (BlkV w2 (w.heap.size + 1 + 1) 0 0 0 ⟨#[]⟩) := R1.out.below hb2 z1
  have z2 : w.heap.size + 1 + 1 < w2.heap.size := by have := hb2.size; omega
  have K2 : Below w.heap.size w w2 := K1.trans (hb2.mono K1.size)
  clear A1 B1 R1 z1 K1 hb2
  rw [c2]
  obtain ⟨a0, a1, a2, a3, -, -, -, -⟩ := A2.out
  obtain ⟨b0, b1, b2, b3, -, -, -, -⟩ := B2.out
  obtain ⟨r0, r1, r2, r3, r4, r5, r6, r7⟩ := R2.out
  go_wp2
  generalize hW9 : World.setCell _ _ _ = W9
  have b9 : BlkV W9 (w.heap.size + 1 + 1) 0 0 0 ⟨#[]⟩ := by rw [← hW9]; exact R2.out.four
  have hB9 : Below w.heap.size w W9 := by rw [← hW9]; exact (by repeat' (first | (with_reducible exact Below.refl _ _) | (with_reducible assumption) | (with_reducible refine bdrewN _ ?_) | (with_reducible refine Below.alloc ?_ ?_ _) | (with_reducible refine Below.setCell ?_ ?_ _) | (with_reducible refine Below.drew ?_) | go_size | (simp; omega)))
  clear hW9
  obtain ⟨x0, x1, x2, x3, -, -, -, -⟩ := b9
  refine bodyPost_ret (by simp [results, Tryz.results22, go_sem, x0, x1, x2, x3]; try rfl) rfl ?_
  exact ⟨rfl, hB9⟩

set_option maxRecDepth 100000 in
set_option maxHeartbeats 2000000 in
theorem drk_kind2 (m k n d : Int) (s : ByteArray) (k' n' d' : Int) (s' : ByteArray) (w : World) (h1 : -9223372036854775808 ≤ n) (h2 : n ≤ 9223372036854775807) (g1 : -9223372036854775808 ≤ d) (g2 : d ≤ 9223372036854775807) (h1' : -9223372036854775808 ≤ n') (h2' : n' ≤ 9223372036854775807) (g1' : -9223372036854775808 ≤ d') (g2' : d' ≤ 9223372036854775807) (c1 : chk k n d s = 0) (c2 : chk k' n' d' s' = 0) (hk : k = 3) (hk' : k' = 3) :
    Calls Tryz.prog 22 #[.int .i64 m, .agg #[.int .i64 k, .int .i64 n, .int .i64 d, .string s], .agg #[.int .i64 k', .int .i64 n', .int .i64 d', .string s']] w fun e w' => e = .returned (.tuple #[.agg #[.int .i64 (0), .int .i64 (0), .int .i64 (0), .string ⟨#[]⟩], .int .i64 (20)]) ∧ Below w.heap.size w w' := by
  subst hk hk'
  go_enter Tryz.func22, Tryz.ntmps22
  go_upto_region 1 with fail
  refine wp_world ?_
  intro W0 hW0
  have A0 : Hid (BlkV W0 w.heap.size 3 n d s) := by rw [hW0]; constructor <;> simp (maxDischargeDepth := 12) [go_sem]
  have B0 : Hid (BlkV W0 (w.heap.size + 1) 3 n' d' s') := by rw [hW0]; constructor <;> simp (maxDischargeDepth := 12) [go_sem]
  have R0 : Hid (BlkV W0 (w.heap.size + 1 + 1) 0 0 0 ⟨#[]⟩) := by rw [hW0]; constructor <;> simp (maxDischargeDepth := 12) [go_sem]
  have z0 : w.heap.size + 1 + 1 < W0.heap.size := by rw [hW0]; simp
  have K0 : Below w.heap.size w W0 := by rw [hW0]; exact (by repeat' (first | (with_reducible exact Below.refl _ _) | (with_reducible assumption) | (with_reducible refine bdrewN _ ?_) | (with_reducible refine Below.alloc ?_ ?_ _) | (with_reducible refine Below.setCell ?_ ?_ _) | (with_reducible refine Below.drew ?_) | go_size | (simp; omega)))
  clear hW0
  obtain ⟨a0, a1, a2, a3, -, -, -, -⟩ := A0.out
  go_wp2_with fail
  refine (rcheck_any 3 n d s _ h1 h2 g1 g2).mono ?_
  rintro e w1 ⟨rfl, hb1⟩
  clear a0 a1 a2 a3
  have A1 : Hid (BlkV w1 w.heap.size 3 n d s) := A0.out.below hb1 (by omega)
  have B1 : Hid (BlkV w1 (w.heap.size + 1) 3 n' d' s') := B0.out.below hb1 (by omega)
  have R1 : Hid (BlkV w1 (w.heap.size + 1 + 1) 0 0 0 ⟨#[]⟩) := R0.out.below hb1 z0
  have z1 : w.heap.size + 1 + 1 < w1.heap.size := by have := hb1.size; omega
  have K1 : Below w.heap.size w w1 := K0.trans (hb1.mono K0.size)
  clear A0 B0 R0 z0 K0 hb1
  rw [c1]
  obtain ⟨a0, a1, a2, a3, -, -, -, -⟩ := B1.out
  go_wp2_with fail
  refine (rcheck_any 3 n' d' s' _ h1' h2' g1' g2').mono ?_
  rintro e w2 ⟨rfl, hb2⟩
  clear a0 a1 a2 a3
  have A2 : Hid (BlkV w2 w.heap.size 3 n d s) := A1.out.below hb2 (by omega)
  have B2 : Hid (BlkV w2 (w.heap.size + 1) 3 n' d' s') := B1.out.below hb2 (by omega)
  have R2 : Hid (BlkV w2 (w.heap.size + 1 + 1) 0 0 0 ⟨#[]⟩) := R1.out.below hb2 z1
  have z2 : w.heap.size + 1 + 1 < w2.heap.size := by have := hb2.size; omega
  have K2 : Below w.heap.size w w2 := K1.trans (hb2.mono K1.size)
  clear A1 B1 R1 z1 K1 hb2
  rw [c2]
  obtain ⟨a0, a1, a2, a3, -, -, -, -⟩ := A2.out
  obtain ⟨b0, b1, b2, b3, -, -, -, -⟩ := B2.out
  obtain ⟨r0, r1, r2, r3, r4, r5, r6, r7⟩ := R2.out
  go_wp2
  generalize hW9 : World.setCell _ _ _ = W9
  have b9 : BlkV W9 (w.heap.size + 1 + 1) 0 0 0 ⟨#[]⟩ := by rw [← hW9]; exact R2.out.four
  have hB9 : Below w.heap.size w W9 := by rw [← hW9]; exact (by repeat' (first | (with_reducible exact Below.refl _ _) | (with_reducible assumption) | (with_reducible refine bdrewN _ ?_) | (with_reducible refine Below.alloc ?_ ?_ _) | (with_reducible refine Below.setCell ?_ ?_ _) | (with_reducible refine Below.drew ?_) | go_size | (simp; omega)))
  clear hW9
  obtain ⟨x0, x1, x2, x3, -, -, -, -⟩ := b9
  refine bodyPost_ret (by simp [results, Tryz.results22, go_sem, x0, x1, x2, x3]; try rfl) rfl ?_
  exact ⟨rfl, hB9⟩

end Go.Proofs.YtedoahibceeklaaGreatDoor

namespace Go.Proofs.YtedoahibceeklaaGreatDoor
open Go.RowKit Go.Shelf
set_option linter.unusedVariables false

set_option maxRecDepth 100000 in
set_option maxHeartbeats 2000000 in
theorem drk_Add1 (N D E n d : Int) (s : ByteArray) (n' d' : Int) (s' : ByteArray) (w : World) (h1 : -9223372036854775808 ≤ n) (h2 : n ≤ 9223372036854775807) (g1 : -9223372036854775808 ≤ d) (g2 : d ≤ 9223372036854775807) (h1' : -9223372036854775808 ≤ n') (h2' : n' ≤ 9223372036854775807) (g1' : -9223372036854775808 ≤ d') (g2' : d' ≤ 9223372036854775807) (c1 : chk 1 n d s = 0) (c2 : chk 1 n' d' s' = 0) (CA : ∀ W : World, Calls Tryz.prog 37 #[.agg #[.int .i64 n, .int .i64 1], .agg #[.int .i64 n', .int .i64 1]] W fun e w' => e = .returned (.tuple #[.agg #[.int .i64 N, .int .i64 D], .int .i64 E]) ∧ Below W.heap.size W w') :
    Calls Tryz.prog 22 #[.int .i64 1, .agg #[.int .i64 1, .int .i64 n, .int .i64 d, .string s], .agg #[.int .i64 1, .int .i64 n', .int .i64 d', .string s']] w fun e w' => e = .returned (.tuple #[.agg #[.int .i64 (if E = 0 then 1 else 0), .int .i64 (if E = 0 then N else 0), .int .i64 (0), .string ⟨#[]⟩], .int .i64 (E)]) ∧ Below w.heap.size w w' := by
  go_enter Tryz.func22, Tryz.ntmps22
  go_upto_region 1 with fail
  refine wp_world ?_
  intro W0 hW0
  have A0 : Hid (BlkV W0 w.heap.size 1 n d s) := by rw [hW0]; constructor <;> simp (maxDischargeDepth := 12) [go_sem]
  have B0 : Hid (BlkV W0 (w.heap.size + 1) 1 n' d' s') := by rw [hW0]; constructor <;> simp (maxDischargeDepth := 12) [go_sem]
  have R0 : Hid (BlkV W0 (w.heap.size + 1 + 1) 0 0 0 ⟨#[]⟩) := by rw [hW0]; constructor <;> simp (maxDischargeDepth := 12) [go_sem]
  have z0 : w.heap.size + 1 + 1 < W0.heap.size := by rw [hW0]; simp
  have K0 : Below w.heap.size w W0 := by rw [hW0]; exact (by repeat' (first | (with_reducible exact Below.refl _ _) | (with_reducible assumption) | (with_reducible refine bdrewN _ ?_) | (with_reducible refine Below.alloc ?_ ?_ _) | (with_reducible refine Below.setCell ?_ ?_ _) | (with_reducible refine Below.drew ?_) | go_size | (simp; omega)))
  clear hW0
  obtain ⟨a0, a1, a2, a3, -, -, -, -⟩ := A0.out
  go_wp2_with fail
  refine (rcheck_any 1 n d s _ h1 h2 g1 g2).mono ?_
  rintro e w1 ⟨rfl, hb1⟩
  clear a0 a1 a2 a3
  have A1 : Hid (BlkV w1 w.heap.size 1 n d s) := A0.out.below hb1 (by omega)
  have B1 : Hid (BlkV w1 (w.heap.size + 1) 1 n' d' s') := B0.out.below hb1 (by omega)
  have R1 : Hid (BlkV w1 (w.heap.size + 1 + 1) 0 0 0 ⟨#[]⟩) := R0.out.below hb1 z0
  have z1 : w.heap.size + 1 + 1 < w1.heap.size := by have := hb1.size; omega
  have K1 : Below w.heap.size w w1 := K0.trans (hb1.mono K0.size)
  clear A0 B0 R0 z0 K0 hb1
  rw [c1]
  obtain ⟨a0, a1, a2, a3, -, -, -, -⟩ := B1.out
  go_wp2_with fail
  refine (rcheck_any 1 n' d' s' _ h1' h2' g1' g2').mono ?_
  rintro e w2 ⟨rfl, hb2⟩
  clear a0 a1 a2 a3
  have A2 : Hid (BlkV w2 w.heap.size 1 n d s) := A1.out.below hb2 (by omega)
  have B2 : Hid (BlkV w2 (w.heap.size + 1) 1 n' d' s') := B1.out.below hb2 (by omega)
  have R2 : Hid (BlkV w2 (w.heap.size + 1 + 1) 0 0 0 ⟨#[]⟩) := R1.out.below hb2 z1
  have z2 : w.heap.size + 1 + 1 < w2.heap.size := by have := hb2.size; omega
  have K2 : Below w.heap.size w w2 := K1.trans (hb2.mono K1.size)
  clear A1 B1 R1 z1 K1 hb2
  rw [c2]
  obtain ⟨a0, a1, a2, a3, -, -, -, -⟩ := A2.out
  obtain ⟨b0, b1, b2, b3, -, -, -, -⟩ := B2.out
  go_wp2_with fail
  refine (rfrac_any 1 n d s _).mono ?_
  rintro e w3 ⟨rfl, hb3⟩
  clear a0 a1 a2 a3 b0 b1 b2 b3
  have l3 := hb3.size
  go_upto_region 10 with fail
  refine wp_world ?_
  intro V1 hV1
  have stV1 : Below w2.heap.size w2 V1 := by rw [hV1]; exact (hb3.alloc hb3.size _)
  have X1 : Hid (Blk2 V1 w3.heap.size n d) := by rw [hV1]; constructor <;> simp (maxDischargeDepth := 12) [go_sem]
  have y1 : Hid (w3.heap.size < V1.heap.size) := by rw [hV1]; exact (show w3.heap.size < _ from (by simp))
  clear hV1
  have A3 : Hid (BlkV V1 w.heap.size 1 n d s) := A2.out.below stV1 (by omega)
  have B3 : Hid (BlkV V1 (w.heap.size + 1) 1 n' d' s') := B2.out.below stV1 (by omega)
  have R3 : Hid (BlkV V1 (w.heap.size + 1 + 1) 0 0 0 ⟨#[]⟩) := R2.out.below stV1 z2
  have z3 : w.heap.size + 1 + 1 < V1.heap.size := by have := stV1.size; omega
  have zx : w.heap.size + 1 + 1 < w3.heap.size := by omega
  have K3 : Below w.heap.size w V1 := K2.trans (stV1.mono K2.size)
  clear A2 B2 R2 z2 K2 stV1 hb3
  obtain ⟨b0, b1, b2, b3, -, -, -, -⟩ := B3.out
  go_wp2_with fail
  refine (rfrac_any 1 n' d' s' _).mono ?_
  rintro e w4 ⟨rfl, hb4⟩
  clear b0 b1 b2 b3
  have l4 := hb4.size
  go_upto_region 11 with fail
  refine wp_world ?_
  intro V2 hV2
  have stV2 : Below V1.heap.size V1 V2 := by rw [hV2]; exact (hb4.alloc hb4.size _)
  have Y2 : Hid (Blk2 V2 w4.heap.size n' d') := by rw [hV2]; constructor <;> simp (maxDischargeDepth := 12) [go_sem]
  have y2 : Hid (w4.heap.size < V2.heap.size) := by rw [hV2]; exact (show w4.heap.size < _ from (by simp))
  clear hV2
  have A4 : Hid (BlkV V2 w.heap.size 1 n d s) := A3.out.below stV2 (by omega)
  have R4 : Hid (BlkV V2 (w.heap.size + 1 + 1) 0 0 0 ⟨#[]⟩) := R3.out.below stV2 z3
  have X2 : Hid (Blk2 V2 w3.heap.size n d) := X1.out.below stV2 y1.out
  have z4 : w.heap.size + 1 + 1 < V2.heap.size := by have := stV2.size; omega
  have zy : w3.heap.size < w4.heap.size := by have := y1.out; omega
  have K4 : Below w.heap.size w V2 := K3.trans (stV2.mono K3.size)
  have y2' := y2.out
  clear A3 B3 R3 z3 K3 stV2 hb4 X1 y1 y2
  obtain ⟨a0, a1, a2, a3, -, -, -, -⟩ := A4.out
  obtain ⟨x0, x1, xf0, xf1⟩ := X2.out
  obtain ⟨t0, t1, tf0, tf1⟩ := Y2.out
  go_upto_region 16 with fail
  refine wp_world ?_
  intro V3 hV3
  have ne1 : w3.heap.size ≠ w4.heap.size := by omega
  have ne2 : ¬ w4.heap.size = w3.heap.size := by omega
  have ne3 : w3.heap.size < V2.heap.size := by omega
  have P3 : Hid (V2.heap.size < V3.heap.size) := by rw [hV3]; exact (show V2.heap.size < _ from (by simp))
  have A5 : Hid (BlkV V3 w.heap.size 1 n d s) := by
    have q1 : ¬ w3.heap.size = w.heap.size := by omega
    have q2 : ¬ w4.heap.size = w.heap.size := by omega
    have q3 : w.heap.size < V2.heap.size := by omega
    obtain ⟨u0, u1, u2, u3, v0, v1, v2, v3⟩ := A4.out
    rw [hV3]; constructor <;> simp (maxDischargeDepth := 12) [go_sem, *]
  have R5 : Hid (BlkV V3 (w.heap.size + 1 + 1) 0 0 0 ⟨#[]⟩) := by
    have q1 : ¬ w3.heap.size = w.heap.size + 1 + 1 := by omega
    have q2 : ¬ w4.heap.size = w.heap.size + 1 + 1 := by omega
    obtain ⟨u0, u1, u2, u3, v0, v1, v2, v3⟩ := R4.out
    rw [hV3]; constructor <;> simp (maxDischargeDepth := 12) [go_sem, *]
  have X3 : Hid (Blk2 V3 w3.heap.size n 1) := by rw [hV3]; constructor <;> simp (maxDischargeDepth := 12) [go_sem, *]
  have Y3 : Hid (Blk2 V3 w4.heap.size n' 1) := by rw [hV3]; constructor <;> simp (maxDischargeDepth := 12) [go_sem, *]
  have Z3 : Hid (Blk2 V3 V2.heap.size 0 0) := by rw [hV3]; constructor <;> simp (maxDischargeDepth := 12) [go_sem, *]
  have K5 : Below w.heap.size w V3 := by rw [hV3]; exact (by repeat' (first | (with_reducible exact Below.refl _ _) | (with_reducible assumption) | (with_reducible refine bdrewN _ ?_) | (with_reducible refine Below.alloc ?_ ?_ _) | (with_reducible refine Below.setCell ?_ ?_ _) | (with_reducible refine Below.drew ?_) | go_size | (simp; omega)))
  clear hV3 A4 R4 X2 Y2 K4 a0 a1 a2 a3 x0 x1 xf0 xf1 t0 t1 tf0 tf1
  have p3 := P3.out
  obtain ⟨x0, x1, xf0, xf1⟩ := X3.out
  obtain ⟨t0, t1, tf0, tf1⟩ := Y3.out
  go_wp2_with fail
  refine (CA _).mono ?_
  rintro e w5 ⟨rfl, hb5⟩
  clear x0 x1 xf0 xf1 t0 t1 tf0 tf1 X3 Y3
  have A6 : Hid (BlkV w5 w.heap.size 1 n d s) := A5.out.below hb5 (by omega)
  have R6 : Hid (BlkV w5 (w.heap.size + 1 + 1) 0 0 0 ⟨#[]⟩) := R5.out.below hb5 (by omega)
  have Z6 : Hid (Blk2 w5 V2.heap.size 0 0) := Z3.out.below hb5 (by omega)
  have K6 : Below w.heap.size w w5 := K5.trans (hb5.mono K5.size)
  have l5 := hb5.size
  clear A5 R5 Z3 K5 hb5
  obtain ⟨x0, x1, xf0, xf1⟩ := Z6.out
  go_upto_region 22 with fail
  refine wp_world ?_
  intro V4 hV4
  have A7 : Hid (BlkV V4 w.heap.size 1 n d s) := by
    have q1 : ¬ V2.heap.size = w.heap.size := by omega
    obtain ⟨u0, u1, u2, u3, v0, v1, v2, v3⟩ := A6.out
    rw [hV4]; constructor <;> simp (maxDischargeDepth := 12) [go_sem, *]
  have R7 : Hid (BlkV V4 (w.heap.size + 1 + 1) 0 0 0 ⟨#[]⟩) := by
    have q1 : ¬ V2.heap.size = w.heap.size + 1 + 1 := by omega
    obtain ⟨u0, u1, u2, u3, v0, v1, v2, v3⟩ := R6.out
    rw [hV4]; constructor <;> simp (maxDischargeDepth := 12) [go_sem, *]
  have Z7 : Hid (Blk2 V4 V2.heap.size N D) := by rw [hV4]; constructor <;> simp (maxDischargeDepth := 12) [go_sem, *]
  have K7 : Below w.heap.size w V4 := by rw [hV4]; exact (by repeat' (first | (with_reducible exact Below.refl _ _) | (with_reducible assumption) | (with_reducible refine bdrewN _ ?_) | (with_reducible refine Below.alloc ?_ ?_ _) | (with_reducible refine Below.setCell ?_ ?_ _) | (with_reducible refine Below.drew ?_) | go_size | (simp; omega)))
  clear hV4 A6 R6 Z6 K6 x0 x1 xf0 xf1
  obtain ⟨a0, a1, a2, a3, -, -, -, -⟩ := A7.out
  obtain ⟨q0, q1, -, -⟩ := Z7.out
  by_cases hE : E = 0
  · subst hE
    obtain ⟨r0, r1, r2, r3, r4, r5, r6, r7⟩ := R7.out
    go_wp2
    generalize hW9 : World.setCell _ _ _ = W9
    have b9 : BlkV W9 (w.heap.size + 1 + 1) 1 N 0 ⟨#[]⟩ := by rw [← hW9]; exact R7.out.four
    have hB9 : Below w.heap.size w W9 := by rw [← hW9]; exact (by repeat' (first | (with_reducible exact Below.refl _ _) | (with_reducible assumption) | (with_reducible refine bdrewN _ ?_) | (with_reducible refine Below.alloc ?_ ?_ _) | (with_reducible refine Below.setCell ?_ ?_ _) | (with_reducible refine Below.drew ?_) | go_size | (simp; omega)))
    clear hW9
    obtain ⟨x0, x1, x2, x3, -, -, -, -⟩ := b9
    refine bodyPost_ret (by simp [results, Tryz.results22, go_sem, x0, x1, x2, x3]; try rfl) rfl ?_
    exact ⟨by simp, hB9⟩
  · have hE1 : (E != 0) = true := by simpa using hE
    obtain ⟨r0, r1, r2, r3, r4, r5, r6, r7⟩ := R7.out
    go_wp2
    generalize hW9 : World.setCell _ _ _ = W9
    have b9 : BlkV W9 (w.heap.size + 1 + 1) 0 0 0 ⟨#[]⟩ := by rw [← hW9]; exact R7.out.four
    have hB9 : Below w.heap.size w W9 := by rw [← hW9]; exact (by repeat' (first | (with_reducible exact Below.refl _ _) | (with_reducible assumption) | (with_reducible refine bdrewN _ ?_) | (with_reducible refine Below.alloc ?_ ?_ _) | (with_reducible refine Below.setCell ?_ ?_ _) | (with_reducible refine Below.drew ?_) | go_size | (simp; omega)))
    clear hW9
    obtain ⟨x0, x1, x2, x3, -, -, -, -⟩ := b9
    refine bodyPost_ret (by simp [results, Tryz.results22, go_sem, x0, x1, x2, x3]; try rfl) rfl ?_
    exact ⟨by simp, hB9⟩

end Go.Proofs.YtedoahibceeklaaGreatDoor

namespace Go.Proofs.YtedoahibceeklaaGreatDoor
open Go.RowKit Go.Shelf
set_option linter.unusedVariables false

set_option maxRecDepth 100000 in
set_option maxHeartbeats 2000000 in
theorem drk_Add2 (N D E n d : Int) (s : ByteArray) (n' d' : Int) (s' : ByteArray) (w : World) (h1 : -9223372036854775808 ≤ n) (h2 : n ≤ 9223372036854775807) (g1 : -9223372036854775808 ≤ d) (g2 : d ≤ 9223372036854775807) (h1' : -9223372036854775808 ≤ n') (h2' : n' ≤ 9223372036854775807) (g1' : -9223372036854775808 ≤ d') (g2' : d' ≤ 9223372036854775807) (c1 : chk 2 n d s = 0) (c2 : chk 2 n' d' s' = 0) (CA : ∀ W : World, Calls Tryz.prog 37 #[.agg #[.int .i64 n, .int .i64 d], .agg #[.int .i64 n', .int .i64 d']] W fun e w' => e = .returned (.tuple #[.agg #[.int .i64 N, .int .i64 D], .int .i64 E]) ∧ Below W.heap.size W w') :
    Calls Tryz.prog 22 #[.int .i64 1, .agg #[.int .i64 2, .int .i64 n, .int .i64 d, .string s], .agg #[.int .i64 2, .int .i64 n', .int .i64 d', .string s']] w fun e w' => e = .returned (.tuple #[.agg #[.int .i64 (if E = 0 then 2 else 0), .int .i64 (if E = 0 then N else 0), .int .i64 (if E = 0 then D else 0), .string ⟨#[]⟩], .int .i64 (E)]) ∧ Below w.heap.size w w' := by
  go_enter Tryz.func22, Tryz.ntmps22
  go_upto_region 1 with fail
  refine wp_world ?_
  intro W0 hW0
  have A0 : Hid (BlkV W0 w.heap.size 2 n d s) := by rw [hW0]; constructor <;> simp (maxDischargeDepth := 12) [go_sem]
  have B0 : Hid (BlkV W0 (w.heap.size + 1) 2 n' d' s') := by rw [hW0]; constructor <;> simp (maxDischargeDepth := 12) [go_sem]
  have R0 : Hid (BlkV W0 (w.heap.size + 1 + 1) 0 0 0 ⟨#[]⟩) := by rw [hW0]; constructor <;> simp (maxDischargeDepth := 12) [go_sem]
  have z0 : w.heap.size + 1 + 1 < W0.heap.size := by rw [hW0]; simp
  have K0 : Below w.heap.size w W0 := by rw [hW0]; exact (by repeat' (first | (with_reducible exact Below.refl _ _) | (with_reducible assumption) | (with_reducible refine bdrewN _ ?_) | (with_reducible refine Below.alloc ?_ ?_ _) | (with_reducible refine Below.setCell ?_ ?_ _) | (with_reducible refine Below.drew ?_) | go_size | (simp; omega)))
  clear hW0
  obtain ⟨a0, a1, a2, a3, -, -, -, -⟩ := A0.out
  go_wp2_with fail
  refine (rcheck_any 2 n d s _ h1 h2 g1 g2).mono ?_
  rintro e w1 ⟨rfl, hb1⟩
  clear a0 a1 a2 a3
  have A1 : Hid (BlkV w1 w.heap.size 2 n d s) := A0.out.below hb1 (by omega)
  have B1 : Hid (BlkV w1 (w.heap.size + 1) 2 n' d' s') := B0.out.below hb1 (by omega)
  have R1 : Hid (BlkV w1 (w.heap.size + 1 + 1) 0 0 0 ⟨#[]⟩) := R0.out.below hb1 z0
  have z1 : w.heap.size + 1 + 1 < w1.heap.size := by have := hb1.size; omega
  have K1 : Below w.heap.size w w1 := K0.trans (hb1.mono K0.size)
  clear A0 B0 R0 z0 K0 hb1
  rw [c1]
  obtain ⟨a0, a1, a2, a3, -, -, -, -⟩ := B1.out
  go_wp2_with fail
  refine (rcheck_any 2 n' d' s' _ h1' h2' g1' g2').mono ?_
  rintro e w2 ⟨rfl, hb2⟩
  clear a0 a1 a2 a3
  have A2 : Hid (BlkV w2 w.heap.size 2 n d s) := A1.out.below hb2 (by omega)
  have B2 : Hid (BlkV w2 (w.heap.size + 1) 2 n' d' s') := B1.out.below hb2 (by omega)
  have R2 : Hid (BlkV w2 (w.heap.size + 1 + 1) 0 0 0 ⟨#[]⟩) := R1.out.below hb2 z1
  have z2 : w.heap.size + 1 + 1 < w2.heap.size := by have := hb2.size; omega
  have K2 : Below w.heap.size w w2 := K1.trans (hb2.mono K1.size)
  clear A1 B1 R1 z1 K1 hb2
  rw [c2]
  obtain ⟨a0, a1, a2, a3, -, -, -, -⟩ := A2.out
  obtain ⟨b0, b1, b2, b3, -, -, -, -⟩ := B2.out
  go_wp2_with fail
  refine (rfrac_any 2 n d s _).mono ?_
  rintro e w3 ⟨rfl, hb3⟩
  clear a0 a1 a2 a3 b0 b1 b2 b3
  have l3 := hb3.size
  go_upto_region 10 with fail
  refine wp_world ?_
  intro V1 hV1
  have stV1 : Below w2.heap.size w2 V1 := by rw [hV1]; exact (hb3.alloc hb3.size _)
  have X1 : Hid (Blk2 V1 w3.heap.size n d) := by rw [hV1]; constructor <;> simp (maxDischargeDepth := 12) [go_sem]
  have y1 : Hid (w3.heap.size < V1.heap.size) := by rw [hV1]; exact (show w3.heap.size < _ from (by simp))
  clear hV1
  have A3 : Hid (BlkV V1 w.heap.size 2 n d s) := A2.out.below stV1 (by omega)
  have B3 : Hid (BlkV V1 (w.heap.size + 1) 2 n' d' s') := B2.out.below stV1 (by omega)
  have R3 : Hid (BlkV V1 (w.heap.size + 1 + 1) 0 0 0 ⟨#[]⟩) := R2.out.below stV1 z2
  have z3 : w.heap.size + 1 + 1 < V1.heap.size := by have := stV1.size; omega
  have zx : w.heap.size + 1 + 1 < w3.heap.size := by omega
  have K3 : Below w.heap.size w V1 := K2.trans (stV1.mono K2.size)
  clear A2 B2 R2 z2 K2 stV1 hb3
  obtain ⟨b0, b1, b2, b3, -, -, -, -⟩ := B3.out
  go_wp2_with fail
  refine (rfrac_any 2 n' d' s' _).mono ?_
  rintro e w4 ⟨rfl, hb4⟩
  clear b0 b1 b2 b3
  have l4 := hb4.size
  go_upto_region 11 with fail
  refine wp_world ?_
  intro V2 hV2
  have stV2 : Below V1.heap.size V1 V2 := by rw [hV2]; exact (hb4.alloc hb4.size _)
  have Y2 : Hid (Blk2 V2 w4.heap.size n' d') := by rw [hV2]; constructor <;> simp (maxDischargeDepth := 12) [go_sem]
  have y2 : Hid (w4.heap.size < V2.heap.size) := by rw [hV2]; exact (show w4.heap.size < _ from (by simp))
  clear hV2
  have A4 : Hid (BlkV V2 w.heap.size 2 n d s) := A3.out.below stV2 (by omega)
  have R4 : Hid (BlkV V2 (w.heap.size + 1 + 1) 0 0 0 ⟨#[]⟩) := R3.out.below stV2 z3
  have X2 : Hid (Blk2 V2 w3.heap.size n d) := X1.out.below stV2 y1.out
  have z4 : w.heap.size + 1 + 1 < V2.heap.size := by have := stV2.size; omega
  have zy : w3.heap.size < w4.heap.size := by have := y1.out; omega
  have K4 : Below w.heap.size w V2 := K3.trans (stV2.mono K3.size)
  have y2' := y2.out
  clear A3 B3 R3 z3 K3 stV2 hb4 X1 y1 y2
  obtain ⟨a0, a1, a2, a3, -, -, -, -⟩ := A4.out
  obtain ⟨x0, x1, xf0, xf1⟩ := X2.out
  obtain ⟨t0, t1, tf0, tf1⟩ := Y2.out
  go_upto_region 16 with fail
  refine wp_world ?_
  intro V3 hV3
  have ne1 : w3.heap.size ≠ w4.heap.size := by omega
  have ne2 : ¬ w4.heap.size = w3.heap.size := by omega
  have ne3 : w3.heap.size < V2.heap.size := by omega
  have P3 : Hid (V2.heap.size < V3.heap.size) := by rw [hV3]; exact (show V2.heap.size < _ from (by simp))
  have A5 : Hid (BlkV V3 w.heap.size 2 n d s) := by
    have q1 : ¬ w3.heap.size = w.heap.size := by omega
    have q2 : ¬ w4.heap.size = w.heap.size := by omega
    have q3 : w.heap.size < V2.heap.size := by omega
    obtain ⟨u0, u1, u2, u3, v0, v1, v2, v3⟩ := A4.out
    rw [hV3]; constructor <;> simp (maxDischargeDepth := 12) [go_sem, *]
  have R5 : Hid (BlkV V3 (w.heap.size + 1 + 1) 0 0 0 ⟨#[]⟩) := by
    have q1 : ¬ w3.heap.size = w.heap.size + 1 + 1 := by omega
    have q2 : ¬ w4.heap.size = w.heap.size + 1 + 1 := by omega
    obtain ⟨u0, u1, u2, u3, v0, v1, v2, v3⟩ := R4.out
    rw [hV3]; constructor <;> simp (maxDischargeDepth := 12) [go_sem, *]
  have X3 : Hid (Blk2 V3 w3.heap.size n d) := by rw [hV3]; constructor <;> simp (maxDischargeDepth := 12) [go_sem, *]
  have Y3 : Hid (Blk2 V3 w4.heap.size n' d') := by rw [hV3]; constructor <;> simp (maxDischargeDepth := 12) [go_sem, *]
  have Z3 : Hid (Blk2 V3 V2.heap.size 0 0) := by rw [hV3]; constructor <;> simp (maxDischargeDepth := 12) [go_sem, *]
  have K5 : Below w.heap.size w V3 := by rw [hV3]; exact (by repeat' (first | (with_reducible exact Below.refl _ _) | (with_reducible assumption) | (with_reducible refine bdrewN _ ?_) | (with_reducible refine Below.alloc ?_ ?_ _) | (with_reducible refine Below.setCell ?_ ?_ _) | (with_reducible refine Below.drew ?_) | go_size | (simp; omega)))
  clear hV3 A4 R4 X2 Y2 K4 a0 a1 a2 a3 x0 x1 xf0 xf1 t0 t1 tf0 tf1
  have p3 := P3.out
  obtain ⟨x0, x1, xf0, xf1⟩ := X3.out
  obtain ⟨t0, t1, tf0, tf1⟩ := Y3.out
  go_wp2_with fail
  refine (CA _).mono ?_
  rintro e w5 ⟨rfl, hb5⟩
  clear x0 x1 xf0 xf1 t0 t1 tf0 tf1 X3 Y3
  have A6 : Hid (BlkV w5 w.heap.size 2 n d s) := A5.out.below hb5 (by omega)
  have R6 : Hid (BlkV w5 (w.heap.size + 1 + 1) 0 0 0 ⟨#[]⟩) := R5.out.below hb5 (by omega)
  have Z6 : Hid (Blk2 w5 V2.heap.size 0 0) := Z3.out.below hb5 (by omega)
  have K6 : Below w.heap.size w w5 := K5.trans (hb5.mono K5.size)
  have l5 := hb5.size
  clear A5 R5 Z3 K5 hb5
  obtain ⟨x0, x1, xf0, xf1⟩ := Z6.out
  go_upto_region 22 with fail
  refine wp_world ?_
  intro V4 hV4
  have A7 : Hid (BlkV V4 w.heap.size 2 n d s) := by
    have q1 : ¬ V2.heap.size = w.heap.size := by omega
    obtain ⟨u0, u1, u2, u3, v0, v1, v2, v3⟩ := A6.out
    rw [hV4]; constructor <;> simp (maxDischargeDepth := 12) [go_sem, *]
  have R7 : Hid (BlkV V4 (w.heap.size + 1 + 1) 0 0 0 ⟨#[]⟩) := by
    have q1 : ¬ V2.heap.size = w.heap.size + 1 + 1 := by omega
    obtain ⟨u0, u1, u2, u3, v0, v1, v2, v3⟩ := R6.out
    rw [hV4]; constructor <;> simp (maxDischargeDepth := 12) [go_sem, *]
  have Z7 : Hid (Blk2 V4 V2.heap.size N D) := by rw [hV4]; constructor <;> simp (maxDischargeDepth := 12) [go_sem, *]
  have K7 : Below w.heap.size w V4 := by rw [hV4]; exact (by repeat' (first | (with_reducible exact Below.refl _ _) | (with_reducible assumption) | (with_reducible refine bdrewN _ ?_) | (with_reducible refine Below.alloc ?_ ?_ _) | (with_reducible refine Below.setCell ?_ ?_ _) | (with_reducible refine Below.drew ?_) | go_size | (simp; omega)))
  clear hV4 A6 R6 Z6 K6 x0 x1 xf0 xf1
  obtain ⟨a0, a1, a2, a3, -, -, -, -⟩ := A7.out
  obtain ⟨q0, q1, -, -⟩ := Z7.out
  by_cases hE : E = 0
  · subst hE
    obtain ⟨r0, r1, r2, r3, r4, r5, r6, r7⟩ := R7.out
    go_wp2
    generalize hW9 : World.setCell _ _ _ = W9
    have b9 : BlkV W9 (w.heap.size + 1 + 1) 2 N D ⟨#[]⟩ := by rw [← hW9]; exact R7.out.four
    have hB9 : Below w.heap.size w W9 := by rw [← hW9]; exact (by repeat' (first | (with_reducible exact Below.refl _ _) | (with_reducible assumption) | (with_reducible refine bdrewN _ ?_) | (with_reducible refine Below.alloc ?_ ?_ _) | (with_reducible refine Below.setCell ?_ ?_ _) | (with_reducible refine Below.drew ?_) | go_size | (simp; omega)))
    clear hW9
    obtain ⟨x0, x1, x2, x3, -, -, -, -⟩ := b9
    refine bodyPost_ret (by simp [results, Tryz.results22, go_sem, x0, x1, x2, x3]; try rfl) rfl ?_
    exact ⟨by simp, hB9⟩
  · have hE1 : (E != 0) = true := by simpa using hE
    obtain ⟨r0, r1, r2, r3, r4, r5, r6, r7⟩ := R7.out
    go_wp2
    generalize hW9 : World.setCell _ _ _ = W9
    have b9 : BlkV W9 (w.heap.size + 1 + 1) 0 0 0 ⟨#[]⟩ := by rw [← hW9]; exact R7.out.four
    have hB9 : Below w.heap.size w W9 := by rw [← hW9]; exact (by repeat' (first | (with_reducible exact Below.refl _ _) | (with_reducible assumption) | (with_reducible refine bdrewN _ ?_) | (with_reducible refine Below.alloc ?_ ?_ _) | (with_reducible refine Below.setCell ?_ ?_ _) | (with_reducible refine Below.drew ?_) | go_size | (simp; omega)))
    clear hW9
    obtain ⟨x0, x1, x2, x3, -, -, -, -⟩ := b9
    refine bodyPost_ret (by simp [results, Tryz.results22, go_sem, x0, x1, x2, x3]; try rfl) rfl ?_
    exact ⟨by simp, hB9⟩

end Go.Proofs.YtedoahibceeklaaGreatDoor

namespace Go.Proofs.YtedoahibceeklaaGreatDoor
open Go.RowKit Go.Shelf
set_option linter.unusedVariables false

set_option maxRecDepth 100000 in
set_option maxHeartbeats 2000000 in
theorem drk_Sub1 (N D E n d : Int) (s : ByteArray) (n' d' : Int) (s' : ByteArray) (w : World) (h1 : -9223372036854775808 ≤ n) (h2 : n ≤ 9223372036854775807) (g1 : -9223372036854775808 ≤ d) (g2 : d ≤ 9223372036854775807) (h1' : -9223372036854775808 ≤ n') (h2' : n' ≤ 9223372036854775807) (g1' : -9223372036854775808 ≤ d') (g2' : d' ≤ 9223372036854775807) (c1 : chk 1 n d s = 0) (c2 : chk 1 n' d' s' = 0) (CA : ∀ W : World, Calls Tryz.prog 38 #[.agg #[.int .i64 n, .int .i64 1], .agg #[.int .i64 n', .int .i64 1]] W fun e w' => e = .returned (.tuple #[.agg #[.int .i64 N, .int .i64 D], .int .i64 E]) ∧ Below W.heap.size W w') :
    Calls Tryz.prog 22 #[.int .i64 2, .agg #[.int .i64 1, .int .i64 n, .int .i64 d, .string s], .agg #[.int .i64 1, .int .i64 n', .int .i64 d', .string s']] w fun e w' => e = .returned (.tuple #[.agg #[.int .i64 (if E = 0 then 1 else 0), .int .i64 (if E = 0 then N else 0), .int .i64 (0), .string ⟨#[]⟩], .int .i64 (E)]) ∧ Below w.heap.size w w' := by
  go_enter Tryz.func22, Tryz.ntmps22
  go_upto_region 1 with fail
  refine wp_world ?_
  intro W0 hW0
  have A0 : Hid (BlkV W0 w.heap.size 1 n d s) := by rw [hW0]; constructor <;> simp (maxDischargeDepth := 12) [go_sem]
  have B0 : Hid (BlkV W0 (w.heap.size + 1) 1 n' d' s') := by rw [hW0]; constructor <;> simp (maxDischargeDepth := 12) [go_sem]
  have R0 : Hid (BlkV W0 (w.heap.size + 1 + 1) 0 0 0 ⟨#[]⟩) := by rw [hW0]; constructor <;> simp (maxDischargeDepth := 12) [go_sem]
  have z0 : w.heap.size + 1 + 1 < W0.heap.size := by rw [hW0]; simp
  have K0 : Below w.heap.size w W0 := by rw [hW0]; exact (by repeat' (first | (with_reducible exact Below.refl _ _) | (with_reducible assumption) | (with_reducible refine bdrewN _ ?_) | (with_reducible refine Below.alloc ?_ ?_ _) | (with_reducible refine Below.setCell ?_ ?_ _) | (with_reducible refine Below.drew ?_) | go_size | (simp; omega)))
  clear hW0
  obtain ⟨a0, a1, a2, a3, -, -, -, -⟩ := A0.out
  go_wp2_with fail
  refine (rcheck_any 1 n d s _ h1 h2 g1 g2).mono ?_
  rintro e w1 ⟨rfl, hb1⟩
  clear a0 a1 a2 a3
  have A1 : Hid (BlkV w1 w.heap.size 1 n d s) := A0.out.below hb1 (by omega)
  have B1 : Hid (BlkV w1 (w.heap.size + 1) 1 n' d' s') := B0.out.below hb1 (by omega)
  have R1 : Hid (BlkV w1 (w.heap.size + 1 + 1) 0 0 0 ⟨#[]⟩) := R0.out.below hb1 z0
  have z1 : w.heap.size + 1 + 1 < w1.heap.size := by have := hb1.size; omega
  have K1 : Below w.heap.size w w1 := K0.trans (hb1.mono K0.size)
  clear A0 B0 R0 z0 K0 hb1
  rw [c1]
  obtain ⟨a0, a1, a2, a3, -, -, -, -⟩ := B1.out
  go_wp2_with fail
  refine (rcheck_any 1 n' d' s' _ h1' h2' g1' g2').mono ?_
  rintro e w2 ⟨rfl, hb2⟩
  clear a0 a1 a2 a3
  have A2 : Hid (BlkV w2 w.heap.size 1 n d s) := A1.out.below hb2 (by omega)
  have B2 : Hid (BlkV w2 (w.heap.size + 1) 1 n' d' s') := B1.out.below hb2 (by omega)
  have R2 : Hid (BlkV w2 (w.heap.size + 1 + 1) 0 0 0 ⟨#[]⟩) := R1.out.below hb2 z1
  have z2 : w.heap.size + 1 + 1 < w2.heap.size := by have := hb2.size; omega
  have K2 : Below w.heap.size w w2 := K1.trans (hb2.mono K1.size)
  clear A1 B1 R1 z1 K1 hb2
  rw [c2]
  obtain ⟨a0, a1, a2, a3, -, -, -, -⟩ := A2.out
  obtain ⟨b0, b1, b2, b3, -, -, -, -⟩ := B2.out
  go_wp2_with fail
  refine (rfrac_any 1 n d s _).mono ?_
  rintro e w3 ⟨rfl, hb3⟩
  clear a0 a1 a2 a3 b0 b1 b2 b3
  have l3 := hb3.size
  go_upto_region 10 with fail
  refine wp_world ?_
  intro V1 hV1
  have stV1 : Below w2.heap.size w2 V1 := by rw [hV1]; exact (hb3.alloc hb3.size _)
  have X1 : Hid (Blk2 V1 w3.heap.size n d) := by rw [hV1]; constructor <;> simp (maxDischargeDepth := 12) [go_sem]
  have y1 : Hid (w3.heap.size < V1.heap.size) := by rw [hV1]; exact (show w3.heap.size < _ from (by simp))
  clear hV1
  have A3 : Hid (BlkV V1 w.heap.size 1 n d s) := A2.out.below stV1 (by omega)
  have B3 : Hid (BlkV V1 (w.heap.size + 1) 1 n' d' s') := B2.out.below stV1 (by omega)
  have R3 : Hid (BlkV V1 (w.heap.size + 1 + 1) 0 0 0 ⟨#[]⟩) := R2.out.below stV1 z2
  have z3 : w.heap.size + 1 + 1 < V1.heap.size := by have := stV1.size; omega
  have zx : w.heap.size + 1 + 1 < w3.heap.size := by omega
  have K3 : Below w.heap.size w V1 := K2.trans (stV1.mono K2.size)
  clear A2 B2 R2 z2 K2 stV1 hb3
  obtain ⟨b0, b1, b2, b3, -, -, -, -⟩ := B3.out
  go_wp2_with fail
  refine (rfrac_any 1 n' d' s' _).mono ?_
  rintro e w4 ⟨rfl, hb4⟩
  clear b0 b1 b2 b3
  have l4 := hb4.size
  go_upto_region 11 with fail
  refine wp_world ?_
  intro V2 hV2
  have stV2 : Below V1.heap.size V1 V2 := by rw [hV2]; exact (hb4.alloc hb4.size _)
  have Y2 : Hid (Blk2 V2 w4.heap.size n' d') := by rw [hV2]; constructor <;> simp (maxDischargeDepth := 12) [go_sem]
  have y2 : Hid (w4.heap.size < V2.heap.size) := by rw [hV2]; exact (show w4.heap.size < _ from (by simp))
  clear hV2
  have A4 : Hid (BlkV V2 w.heap.size 1 n d s) := A3.out.below stV2 (by omega)
  have R4 : Hid (BlkV V2 (w.heap.size + 1 + 1) 0 0 0 ⟨#[]⟩) := R3.out.below stV2 z3
  have X2 : Hid (Blk2 V2 w3.heap.size n d) := X1.out.below stV2 y1.out
  have z4 : w.heap.size + 1 + 1 < V2.heap.size := by have := stV2.size; omega
  have zy : w3.heap.size < w4.heap.size := by have := y1.out; omega
  have K4 : Below w.heap.size w V2 := K3.trans (stV2.mono K3.size)
  have y2' := y2.out
  clear A3 B3 R3 z3 K3 stV2 hb4 X1 y1 y2
  obtain ⟨a0, a1, a2, a3, -, -, -, -⟩ := A4.out
  obtain ⟨x0, x1, xf0, xf1⟩ := X2.out
  obtain ⟨t0, t1, tf0, tf1⟩ := Y2.out
  go_upto_region 16 with fail
  refine wp_world ?_
  intro V3 hV3
  have ne1 : w3.heap.size ≠ w4.heap.size := by omega
  have ne2 : ¬ w4.heap.size = w3.heap.size := by omega
  have ne3 : w3.heap.size < V2.heap.size := by omega
  have P3 : Hid (V2.heap.size < V3.heap.size) := by rw [hV3]; exact (show V2.heap.size < _ from (by simp))
  have A5 : Hid (BlkV V3 w.heap.size 1 n d s) := by
    have q1 : ¬ w3.heap.size = w.heap.size := by omega
    have q2 : ¬ w4.heap.size = w.heap.size := by omega
    have q3 : w.heap.size < V2.heap.size := by omega
    obtain ⟨u0, u1, u2, u3, v0, v1, v2, v3⟩ := A4.out
    rw [hV3]; constructor <;> simp (maxDischargeDepth := 12) [go_sem, *]
  have R5 : Hid (BlkV V3 (w.heap.size + 1 + 1) 0 0 0 ⟨#[]⟩) := by
    have q1 : ¬ w3.heap.size = w.heap.size + 1 + 1 := by omega
    have q2 : ¬ w4.heap.size = w.heap.size + 1 + 1 := by omega
    obtain ⟨u0, u1, u2, u3, v0, v1, v2, v3⟩ := R4.out
    rw [hV3]; constructor <;> simp (maxDischargeDepth := 12) [go_sem, *]
  have X3 : Hid (Blk2 V3 w3.heap.size n 1) := by rw [hV3]; constructor <;> simp (maxDischargeDepth := 12) [go_sem, *]
  have Y3 : Hid (Blk2 V3 w4.heap.size n' 1) := by rw [hV3]; constructor <;> simp (maxDischargeDepth := 12) [go_sem, *]
  have Z3 : Hid (Blk2 V3 V2.heap.size 0 0) := by rw [hV3]; constructor <;> simp (maxDischargeDepth := 12) [go_sem, *]
  have K5 : Below w.heap.size w V3 := by rw [hV3]; exact (by repeat' (first | (with_reducible exact Below.refl _ _) | (with_reducible assumption) | (with_reducible refine bdrewN _ ?_) | (with_reducible refine Below.alloc ?_ ?_ _) | (with_reducible refine Below.setCell ?_ ?_ _) | (with_reducible refine Below.drew ?_) | go_size | (simp; omega)))
  clear hV3 A4 R4 X2 Y2 K4 a0 a1 a2 a3 x0 x1 xf0 xf1 t0 t1 tf0 tf1
  have p3 := P3.out
  obtain ⟨x0, x1, xf0, xf1⟩ := X3.out
  obtain ⟨t0, t1, tf0, tf1⟩ := Y3.out
  go_wp2_with fail
  refine (CA _).mono ?_
  rintro e w5 ⟨rfl, hb5⟩
  clear x0 x1 xf0 xf1 t0 t1 tf0 tf1 X3 Y3
  have A6 : Hid (BlkV w5 w.heap.size 1 n d s) := A5.out.below hb5 (by omega)
  have R6 : Hid (BlkV w5 (w.heap.size + 1 + 1) 0 0 0 ⟨#[]⟩) := R5.out.below hb5 (by omega)
  have Z6 : Hid (Blk2 w5 V2.heap.size 0 0) := Z3.out.below hb5 (by omega)
  have K6 : Below w.heap.size w w5 := K5.trans (hb5.mono K5.size)
  have l5 := hb5.size
  clear A5 R5 Z3 K5 hb5
  obtain ⟨x0, x1, xf0, xf1⟩ := Z6.out
  go_upto_region 22 with fail
  refine wp_world ?_
  intro V4 hV4
  have A7 : Hid (BlkV V4 w.heap.size 1 n d s) := by
    have q1 : ¬ V2.heap.size = w.heap.size := by omega
    obtain ⟨u0, u1, u2, u3, v0, v1, v2, v3⟩ := A6.out
    rw [hV4]; constructor <;> simp (maxDischargeDepth := 12) [go_sem, *]
  have R7 : Hid (BlkV V4 (w.heap.size + 1 + 1) 0 0 0 ⟨#[]⟩) := by
    have q1 : ¬ V2.heap.size = w.heap.size + 1 + 1 := by omega
    obtain ⟨u0, u1, u2, u3, v0, v1, v2, v3⟩ := R6.out
    rw [hV4]; constructor <;> simp (maxDischargeDepth := 12) [go_sem, *]
  have Z7 : Hid (Blk2 V4 V2.heap.size N D) := by rw [hV4]; constructor <;> simp (maxDischargeDepth := 12) [go_sem, *]
  have K7 : Below w.heap.size w V4 := by rw [hV4]; exact (by repeat' (first | (with_reducible exact Below.refl _ _) | (with_reducible assumption) | (with_reducible refine bdrewN _ ?_) | (with_reducible refine Below.alloc ?_ ?_ _) | (with_reducible refine Below.setCell ?_ ?_ _) | (with_reducible refine Below.drew ?_) | go_size | (simp; omega)))
  clear hV4 A6 R6 Z6 K6 x0 x1 xf0 xf1
  obtain ⟨a0, a1, a2, a3, -, -, -, -⟩ := A7.out
  obtain ⟨q0, q1, -, -⟩ := Z7.out
  by_cases hE : E = 0
  · subst hE
    obtain ⟨r0, r1, r2, r3, r4, r5, r6, r7⟩ := R7.out
    go_wp2
    generalize hW9 : World.setCell _ _ _ = W9
    have b9 : BlkV W9 (w.heap.size + 1 + 1) 1 N 0 ⟨#[]⟩ := by rw [← hW9]; exact R7.out.four
    have hB9 : Below w.heap.size w W9 := by rw [← hW9]; exact (by repeat' (first | (with_reducible exact Below.refl _ _) | (with_reducible assumption) | (with_reducible refine bdrewN _ ?_) | (with_reducible refine Below.alloc ?_ ?_ _) | (with_reducible refine Below.setCell ?_ ?_ _) | (with_reducible refine Below.drew ?_) | go_size | (simp; omega)))
    clear hW9
    obtain ⟨x0, x1, x2, x3, -, -, -, -⟩ := b9
    refine bodyPost_ret (by simp [results, Tryz.results22, go_sem, x0, x1, x2, x3]; try rfl) rfl ?_
    exact ⟨by simp, hB9⟩
  · have hE1 : (E != 0) = true := by simpa using hE
    obtain ⟨r0, r1, r2, r3, r4, r5, r6, r7⟩ := R7.out
    go_wp2
    generalize hW9 : World.setCell _ _ _ = W9
    have b9 : BlkV W9 (w.heap.size + 1 + 1) 0 0 0 ⟨#[]⟩ := by rw [← hW9]; exact R7.out.four
    have hB9 : Below w.heap.size w W9 := by rw [← hW9]; exact (by repeat' (first | (with_reducible exact Below.refl _ _) | (with_reducible assumption) | (with_reducible refine bdrewN _ ?_) | (with_reducible refine Below.alloc ?_ ?_ _) | (with_reducible refine Below.setCell ?_ ?_ _) | (with_reducible refine Below.drew ?_) | go_size | (simp; omega)))
    clear hW9
    obtain ⟨x0, x1, x2, x3, -, -, -, -⟩ := b9
    refine bodyPost_ret (by simp [results, Tryz.results22, go_sem, x0, x1, x2, x3]; try rfl) rfl ?_
    exact ⟨by simp, hB9⟩

end Go.Proofs.YtedoahibceeklaaGreatDoor

namespace Go.Proofs.YtedoahibceeklaaGreatDoor
open Go.RowKit Go.Shelf
set_option linter.unusedVariables false

set_option maxRecDepth 100000 in
set_option maxHeartbeats 2000000 in
theorem drk_Sub2 (N D E n d : Int) (s : ByteArray) (n' d' : Int) (s' : ByteArray) (w : World) (h1 : -9223372036854775808 ≤ n) (h2 : n ≤ 9223372036854775807) (g1 : -9223372036854775808 ≤ d) (g2 : d ≤ 9223372036854775807) (h1' : -9223372036854775808 ≤ n') (h2' : n' ≤ 9223372036854775807) (g1' : -9223372036854775808 ≤ d') (g2' : d' ≤ 9223372036854775807) (c1 : chk 2 n d s = 0) (c2 : chk 2 n' d' s' = 0) (CA : ∀ W : World, Calls Tryz.prog 38 #[.agg #[.int .i64 n, .int .i64 d], .agg #[.int .i64 n', .int .i64 d']] W fun e w' => e = .returned (.tuple #[.agg #[.int .i64 N, .int .i64 D], .int .i64 E]) ∧ Below W.heap.size W w') :
    Calls Tryz.prog 22 #[.int .i64 2, .agg #[.int .i64 2, .int .i64 n, .int .i64 d, .string s], .agg #[.int .i64 2, .int .i64 n', .int .i64 d', .string s']] w fun e w' => e = .returned (.tuple #[.agg #[.int .i64 (if E = 0 then 2 else 0), .int .i64 (if E = 0 then N else 0), .int .i64 (if E = 0 then D else 0), .string ⟨#[]⟩], .int .i64 (E)]) ∧ Below w.heap.size w w' := by
  go_enter Tryz.func22, Tryz.ntmps22
  go_upto_region 1 with fail
  refine wp_world ?_
  intro W0 hW0
  have A0 : Hid (BlkV W0 w.heap.size 2 n d s) := by rw [hW0]; constructor <;> simp (maxDischargeDepth := 12) [go_sem]
  have B0 : Hid (BlkV W0 (w.heap.size + 1) 2 n' d' s') := by rw [hW0]; constructor <;> simp (maxDischargeDepth := 12) [go_sem]
  have R0 : Hid (BlkV W0 (w.heap.size + 1 + 1) 0 0 0 ⟨#[]⟩) := by rw [hW0]; constructor <;> simp (maxDischargeDepth := 12) [go_sem]
  have z0 : w.heap.size + 1 + 1 < W0.heap.size := by rw [hW0]; simp
  have K0 : Below w.heap.size w W0 := by rw [hW0]; exact (by repeat' (first | (with_reducible exact Below.refl _ _) | (with_reducible assumption) | (with_reducible refine bdrewN _ ?_) | (with_reducible refine Below.alloc ?_ ?_ _) | (with_reducible refine Below.setCell ?_ ?_ _) | (with_reducible refine Below.drew ?_) | go_size | (simp; omega)))
  clear hW0
  obtain ⟨a0, a1, a2, a3, -, -, -, -⟩ := A0.out
  go_wp2_with fail
  refine (rcheck_any 2 n d s _ h1 h2 g1 g2).mono ?_
  rintro e w1 ⟨rfl, hb1⟩
  clear a0 a1 a2 a3
  have A1 : Hid (BlkV w1 w.heap.size 2 n d s) := A0.out.below hb1 (by omega)
  have B1 : Hid (BlkV w1 (w.heap.size + 1) 2 n' d' s') := B0.out.below hb1 (by omega)
  have R1 : Hid (BlkV w1 (w.heap.size + 1 + 1) 0 0 0 ⟨#[]⟩) := R0.out.below hb1 z0
  have z1 : w.heap.size + 1 + 1 < w1.heap.size := by have := hb1.size; omega
  have K1 : Below w.heap.size w w1 := K0.trans (hb1.mono K0.size)
  clear A0 B0 R0 z0 K0 hb1
  rw [c1]
  obtain ⟨a0, a1, a2, a3, -, -, -, -⟩ := B1.out
  go_wp2_with fail
  refine (rcheck_any 2 n' d' s' _ h1' h2' g1' g2').mono ?_
  rintro e w2 ⟨rfl, hb2⟩
  clear a0 a1 a2 a3
  have A2 : Hid (BlkV w2 w.heap.size 2 n d s) := A1.out.below hb2 (by omega)
  have B2 : Hid (BlkV w2 (w.heap.size + 1) 2 n' d' s') := B1.out.below hb2 (by omega)
  have R2 : Hid (BlkV w2 (w.heap.size + 1 + 1) 0 0 0 ⟨#[]⟩) := R1.out.below hb2 z1
  have z2 : w.heap.size + 1 + 1 < w2.heap.size := by have := hb2.size; omega
  have K2 : Below w.heap.size w w2 := K1.trans (hb2.mono K1.size)
  clear A1 B1 R1 z1 K1 hb2
  rw [c2]
  obtain ⟨a0, a1, a2, a3, -, -, -, -⟩ := A2.out
  obtain ⟨b0, b1, b2, b3, -, -, -, -⟩ := B2.out
  go_wp2_with fail
  refine (rfrac_any 2 n d s _).mono ?_
  rintro e w3 ⟨rfl, hb3⟩
  clear a0 a1 a2 a3 b0 b1 b2 b3
  have l3 := hb3.size
  go_upto_region 10 with fail
  refine wp_world ?_
  intro V1 hV1
  have stV1 : Below w2.heap.size w2 V1 := by rw [hV1]; exact (hb3.alloc hb3.size _)
  have X1 : Hid (Blk2 V1 w3.heap.size n d) := by rw [hV1]; constructor <;> simp (maxDischargeDepth := 12) [go_sem]
  have y1 : Hid (w3.heap.size < V1.heap.size) := by rw [hV1]; exact (show w3.heap.size < _ from (by simp))
  clear hV1
  have A3 : Hid (BlkV V1 w.heap.size 2 n d s) := A2.out.below stV1 (by omega)
  have B3 : Hid (BlkV V1 (w.heap.size + 1) 2 n' d' s') := B2.out.below stV1 (by omega)
  have R3 : Hid (BlkV V1 (w.heap.size + 1 + 1) 0 0 0 ⟨#[]⟩) := R2.out.below stV1 z2
  have z3 : w.heap.size + 1 + 1 < V1.heap.size := by have := stV1.size; omega
  have zx : w.heap.size + 1 + 1 < w3.heap.size := by omega
  have K3 : Below w.heap.size w V1 := K2.trans (stV1.mono K2.size)
  clear A2 B2 R2 z2 K2 stV1 hb3
  obtain ⟨b0, b1, b2, b3, -, -, -, -⟩ := B3.out
  go_wp2_with fail
  refine (rfrac_any 2 n' d' s' _).mono ?_
  rintro e w4 ⟨rfl, hb4⟩
  clear b0 b1 b2 b3
  have l4 := hb4.size
  go_upto_region 11 with fail
  refine wp_world ?_
  intro V2 hV2
  have stV2 : Below V1.heap.size V1 V2 := by rw [hV2]; exact (hb4.alloc hb4.size _)
  have Y2 : Hid (Blk2 V2 w4.heap.size n' d') := by rw [hV2]; constructor <;> simp (maxDischargeDepth := 12) [go_sem]
  have y2 : Hid (w4.heap.size < V2.heap.size) := by rw [hV2]; exact (show w4.heap.size < _ from (by simp))
  clear hV2
  have A4 : Hid (BlkV V2 w.heap.size 2 n d s) := A3.out.below stV2 (by omega)
  have R4 : Hid (BlkV V2 (w.heap.size + 1 + 1) 0 0 0 ⟨#[]⟩) := R3.out.below stV2 z3
  have X2 : Hid (Blk2 V2 w3.heap.size n d) := X1.out.below stV2 y1.out
  have z4 : w.heap.size + 1 + 1 < V2.heap.size := by have := stV2.size; omega
  have zy : w3.heap.size < w4.heap.size := by have := y1.out; omega
  have K4 : Below w.heap.size w V2 := K3.trans (stV2.mono K3.size)
  have y2' := y2.out
  clear A3 B3 R3 z3 K3 stV2 hb4 X1 y1 y2
  obtain ⟨a0, a1, a2, a3, -, -, -, -⟩ := A4.out
  obtain ⟨x0, x1, xf0, xf1⟩ := X2.out
  obtain ⟨t0, t1, tf0, tf1⟩ := Y2.out
  go_upto_region 16 with fail
  refine wp_world ?_
  intro V3 hV3
  have ne1 : w3.heap.size ≠ w4.heap.size := by omega
  have ne2 : ¬ w4.heap.size = w3.heap.size := by omega
  have ne3 : w3.heap.size < V2.heap.size := by omega
  have P3 : Hid (V2.heap.size < V3.heap.size) := by rw [hV3]; exact (show V2.heap.size < _ from (by simp))
  have A5 : Hid (BlkV V3 w.heap.size 2 n d s) := by
    have q1 : ¬ w3.heap.size = w.heap.size := by omega
    have q2 : ¬ w4.heap.size = w.heap.size := by omega
    have q3 : w.heap.size < V2.heap.size := by omega
    obtain ⟨u0, u1, u2, u3, v0, v1, v2, v3⟩ := A4.out
    rw [hV3]; constructor <;> simp (maxDischargeDepth := 12) [go_sem, *]
  have R5 : Hid (BlkV V3 (w.heap.size + 1 + 1) 0 0 0 ⟨#[]⟩) := by
    have q1 : ¬ w3.heap.size = w.heap.size + 1 + 1 := by omega
    have q2 : ¬ w4.heap.size = w.heap.size + 1 + 1 := by omega
    obtain ⟨u0, u1, u2, u3, v0, v1, v2, v3⟩ := R4.out
    rw [hV3]; constructor <;> simp (maxDischargeDepth := 12) [go_sem, *]
  have X3 : Hid (Blk2 V3 w3.heap.size n d) := by rw [hV3]; constructor <;> simp (maxDischargeDepth := 12) [go_sem, *]
  have Y3 : Hid (Blk2 V3 w4.heap.size n' d') := by rw [hV3]; constructor <;> simp (maxDischargeDepth := 12) [go_sem, *]
  have Z3 : Hid (Blk2 V3 V2.heap.size 0 0) := by rw [hV3]; constructor <;> simp (maxDischargeDepth := 12) [go_sem, *]
  have K5 : Below w.heap.size w V3 := by rw [hV3]; exact (by repeat' (first | (with_reducible exact Below.refl _ _) | (with_reducible assumption) | (with_reducible refine bdrewN _ ?_) | (with_reducible refine Below.alloc ?_ ?_ _) | (with_reducible refine Below.setCell ?_ ?_ _) | (with_reducible refine Below.drew ?_) | go_size | (simp; omega)))
  clear hV3 A4 R4 X2 Y2 K4 a0 a1 a2 a3 x0 x1 xf0 xf1 t0 t1 tf0 tf1
  have p3 := P3.out
  obtain ⟨x0, x1, xf0, xf1⟩ := X3.out
  obtain ⟨t0, t1, tf0, tf1⟩ := Y3.out
  go_wp2_with fail
  refine (CA _).mono ?_
  rintro e w5 ⟨rfl, hb5⟩
  clear x0 x1 xf0 xf1 t0 t1 tf0 tf1 X3 Y3
  have A6 : Hid (BlkV w5 w.heap.size 2 n d s) := A5.out.below hb5 (by omega)
  have R6 : Hid (BlkV w5 (w.heap.size + 1 + 1) 0 0 0 ⟨#[]⟩) := R5.out.below hb5 (by omega)
  have Z6 : Hid (Blk2 w5 V2.heap.size 0 0) := Z3.out.below hb5 (by omega)
  have K6 : Below w.heap.size w w5 := K5.trans (hb5.mono K5.size)
  have l5 := hb5.size
  clear A5 R5 Z3 K5 hb5
  obtain ⟨x0, x1, xf0, xf1⟩ := Z6.out
  go_upto_region 22 with fail
  refine wp_world ?_
  intro V4 hV4
  have A7 : Hid (BlkV V4 w.heap.size 2 n d s) := by
    have q1 : ¬ V2.heap.size = w.heap.size := by omega
    obtain ⟨u0, u1, u2, u3, v0, v1, v2, v3⟩ := A6.out
    rw [hV4]; constructor <;> simp (maxDischargeDepth := 12) [go_sem, *]
  have R7 : Hid (BlkV V4 (w.heap.size + 1 + 1) 0 0 0 ⟨#[]⟩) := by
    have q1 : ¬ V2.heap.size = w.heap.size + 1 + 1 := by omega
    obtain ⟨u0, u1, u2, u3, v0, v1, v2, v3⟩ := R6.out
    rw [hV4]; constructor <;> simp (maxDischargeDepth := 12) [go_sem, *]
  have Z7 : Hid (Blk2 V4 V2.heap.size N D) := by rw [hV4]; constructor <;> simp (maxDischargeDepth := 12) [go_sem, *]
  have K7 : Below w.heap.size w V4 := by rw [hV4]; exact (by repeat' (first | (with_reducible exact Below.refl _ _) | (with_reducible assumption) | (with_reducible refine bdrewN _ ?_) | (with_reducible refine Below.alloc ?_ ?_ _) | (with_reducible refine Below.setCell ?_ ?_ _) | (with_reducible refine Below.drew ?_) | go_size | (simp; omega)))
  clear hV4 A6 R6 Z6 K6 x0 x1 xf0 xf1
  obtain ⟨a0, a1, a2, a3, -, -, -, -⟩ := A7.out
  obtain ⟨q0, q1, -, -⟩ := Z7.out
  by_cases hE : E = 0
  · subst hE
    obtain ⟨r0, r1, r2, r3, r4, r5, r6, r7⟩ := R7.out
    go_wp2
    generalize hW9 : World.setCell _ _ _ = W9
    have b9 : BlkV W9 (w.heap.size + 1 + 1) 2 N D ⟨#[]⟩ := by rw [← hW9]; exact R7.out.four
    have hB9 : Below w.heap.size w W9 := by rw [← hW9]; exact (by repeat' (first | (with_reducible exact Below.refl _ _) | (with_reducible assumption) | (with_reducible refine bdrewN _ ?_) | (with_reducible refine Below.alloc ?_ ?_ _) | (with_reducible refine Below.setCell ?_ ?_ _) | (with_reducible refine Below.drew ?_) | go_size | (simp; omega)))
    clear hW9
    obtain ⟨x0, x1, x2, x3, -, -, -, -⟩ := b9
    refine bodyPost_ret (by simp [results, Tryz.results22, go_sem, x0, x1, x2, x3]; try rfl) rfl ?_
    exact ⟨by simp, hB9⟩
  · have hE1 : (E != 0) = true := by simpa using hE
    obtain ⟨r0, r1, r2, r3, r4, r5, r6, r7⟩ := R7.out
    go_wp2
    generalize hW9 : World.setCell _ _ _ = W9
    have b9 : BlkV W9 (w.heap.size + 1 + 1) 0 0 0 ⟨#[]⟩ := by rw [← hW9]; exact R7.out.four
    have hB9 : Below w.heap.size w W9 := by rw [← hW9]; exact (by repeat' (first | (with_reducible exact Below.refl _ _) | (with_reducible assumption) | (with_reducible refine bdrewN _ ?_) | (with_reducible refine Below.alloc ?_ ?_ _) | (with_reducible refine Below.setCell ?_ ?_ _) | (with_reducible refine Below.drew ?_) | go_size | (simp; omega)))
    clear hW9
    obtain ⟨x0, x1, x2, x3, -, -, -, -⟩ := b9
    refine bodyPost_ret (by simp [results, Tryz.results22, go_sem, x0, x1, x2, x3]; try rfl) rfl ?_
    exact ⟨by simp, hB9⟩

end Go.Proofs.YtedoahibceeklaaGreatDoor

namespace Go.Proofs.YtedoahibceeklaaGreatDoor
open Go.RowKit Go.Shelf
set_option linter.unusedVariables false

set_option maxRecDepth 100000 in
set_option maxHeartbeats 2000000 in
theorem drk_Mul1 (N D E n d : Int) (s : ByteArray) (n' d' : Int) (s' : ByteArray) (w : World) (h1 : -9223372036854775808 ≤ n) (h2 : n ≤ 9223372036854775807) (g1 : -9223372036854775808 ≤ d) (g2 : d ≤ 9223372036854775807) (h1' : -9223372036854775808 ≤ n') (h2' : n' ≤ 9223372036854775807) (g1' : -9223372036854775808 ≤ d') (g2' : d' ≤ 9223372036854775807) (c1 : chk 1 n d s = 0) (c2 : chk 1 n' d' s' = 0) (CA : ∀ W : World, Calls Tryz.prog 39 #[.agg #[.int .i64 n, .int .i64 1], .agg #[.int .i64 n', .int .i64 1]] W fun e w' => e = .returned (.tuple #[.agg #[.int .i64 N, .int .i64 D], .int .i64 E]) ∧ Below W.heap.size W w') :
    Calls Tryz.prog 22 #[.int .i64 3, .agg #[.int .i64 1, .int .i64 n, .int .i64 d, .string s], .agg #[.int .i64 1, .int .i64 n', .int .i64 d', .string s']] w fun e w' => e = .returned (.tuple #[.agg #[.int .i64 (if E = 0 then 1 else 0), .int .i64 (if E = 0 then N else 0), .int .i64 (0), .string ⟨#[]⟩], .int .i64 (E)]) ∧ Below w.heap.size w w' := by
  go_enter Tryz.func22, Tryz.ntmps22
  go_upto_region 1 with fail
  refine wp_world ?_
  intro W0 hW0
  have A0 : Hid (BlkV W0 w.heap.size 1 n d s) := by rw [hW0]; constructor <;> simp (maxDischargeDepth := 12) [go_sem]
  have B0 : Hid (BlkV W0 (w.heap.size + 1) 1 n' d' s') := by rw [hW0]; constructor <;> simp (maxDischargeDepth := 12) [go_sem]
  have R0 : Hid (BlkV W0 (w.heap.size + 1 + 1) 0 0 0 ⟨#[]⟩) := by rw [hW0]; constructor <;> simp (maxDischargeDepth := 12) [go_sem]
  have z0 : w.heap.size + 1 + 1 < W0.heap.size := by rw [hW0]; simp
  have K0 : Below w.heap.size w W0 := by rw [hW0]; exact (by repeat' (first | (with_reducible exact Below.refl _ _) | (with_reducible assumption) | (with_reducible refine bdrewN _ ?_) | (with_reducible refine Below.alloc ?_ ?_ _) | (with_reducible refine Below.setCell ?_ ?_ _) | (with_reducible refine Below.drew ?_) | go_size | (simp; omega)))
  clear hW0
  obtain ⟨a0, a1, a2, a3, -, -, -, -⟩ := A0.out
  go_wp2_with fail
  refine (rcheck_any 1 n d s _ h1 h2 g1 g2).mono ?_
  rintro e w1 ⟨rfl, hb1⟩
  clear a0 a1 a2 a3
  have A1 : Hid (BlkV w1 w.heap.size 1 n d s) := A0.out.below hb1 (by omega)
  have B1 : Hid (BlkV w1 (w.heap.size + 1) 1 n' d' s') := B0.out.below hb1 (by omega)
  have R1 : Hid (BlkV w1 (w.heap.size + 1 + 1) 0 0 0 ⟨#[]⟩) := R0.out.below hb1 z0
  have z1 : w.heap.size + 1 + 1 < w1.heap.size := by have := hb1.size; omega
  have K1 : Below w.heap.size w w1 := K0.trans (hb1.mono K0.size)
  clear A0 B0 R0 z0 K0 hb1
  rw [c1]
  obtain ⟨a0, a1, a2, a3, -, -, -, -⟩ := B1.out
  go_wp2_with fail
  refine (rcheck_any 1 n' d' s' _ h1' h2' g1' g2').mono ?_
  rintro e w2 ⟨rfl, hb2⟩
  clear a0 a1 a2 a3
  have A2 : Hid (BlkV w2 w.heap.size 1 n d s) := A1.out.below hb2 (by omega)
  have B2 : Hid (BlkV w2 (w.heap.size + 1) 1 n' d' s') := B1.out.below hb2 (by omega)
  have R2 : Hid (BlkV w2 (w.heap.size + 1 + 1) 0 0 0 ⟨#[]⟩) := R1.out.below hb2 z1
  have z2 : w.heap.size + 1 + 1 < w2.heap.size := by have := hb2.size; omega
  have K2 : Below w.heap.size w w2 := K1.trans (hb2.mono K1.size)
  clear A1 B1 R1 z1 K1 hb2
  rw [c2]
  obtain ⟨a0, a1, a2, a3, -, -, -, -⟩ := A2.out
  obtain ⟨b0, b1, b2, b3, -, -, -, -⟩ := B2.out
  go_wp2_with fail
  refine (rfrac_any 1 n d s _).mono ?_
  rintro e w3 ⟨rfl, hb3⟩
  clear a0 a1 a2 a3 b0 b1 b2 b3
  have l3 := hb3.size
  go_upto_region 10 with fail
  refine wp_world ?_
  intro V1 hV1
  have stV1 : Below w2.heap.size w2 V1 := by rw [hV1]; exact (hb3.alloc hb3.size _)
  have X1 : Hid (Blk2 V1 w3.heap.size n d) := by rw [hV1]; constructor <;> simp (maxDischargeDepth := 12) [go_sem]
  have y1 : Hid (w3.heap.size < V1.heap.size) := by rw [hV1]; exact (show w3.heap.size < _ from (by simp))
  clear hV1
  have A3 : Hid (BlkV V1 w.heap.size 1 n d s) := A2.out.below stV1 (by omega)
  have B3 : Hid (BlkV V1 (w.heap.size + 1) 1 n' d' s') := B2.out.below stV1 (by omega)
  have R3 : Hid (BlkV V1 (w.heap.size + 1 + 1) 0 0 0 ⟨#[]⟩) := R2.out.below stV1 z2
  have z3 : w.heap.size + 1 + 1 < V1.heap.size := by have := stV1.size; omega
  have zx : w.heap.size + 1 + 1 < w3.heap.size := by omega
  have K3 : Below w.heap.size w V1 := K2.trans (stV1.mono K2.size)
  clear A2 B2 R2 z2 K2 stV1 hb3
  obtain ⟨b0, b1, b2, b3, -, -, -, -⟩ := B3.out
  go_wp2_with fail
  refine (rfrac_any 1 n' d' s' _).mono ?_
  rintro e w4 ⟨rfl, hb4⟩
  clear b0 b1 b2 b3
  have l4 := hb4.size
  go_upto_region 11 with fail
  refine wp_world ?_
  intro V2 hV2
  have stV2 : Below V1.heap.size V1 V2 := by rw [hV2]; exact (hb4.alloc hb4.size _)
  have Y2 : Hid (Blk2 V2 w4.heap.size n' d') := by rw [hV2]; constructor <;> simp (maxDischargeDepth := 12) [go_sem]
  have y2 : Hid (w4.heap.size < V2.heap.size) := by rw [hV2]; exact (show w4.heap.size < _ from (by simp))
  clear hV2
  have A4 : Hid (BlkV V2 w.heap.size 1 n d s) := A3.out.below stV2 (by omega)
  have R4 : Hid (BlkV V2 (w.heap.size + 1 + 1) 0 0 0 ⟨#[]⟩) := R3.out.below stV2 z3
  have X2 : Hid (Blk2 V2 w3.heap.size n d) := X1.out.below stV2 y1.out
  have z4 : w.heap.size + 1 + 1 < V2.heap.size := by have := stV2.size; omega
  have zy : w3.heap.size < w4.heap.size := by have := y1.out; omega
  have K4 : Below w.heap.size w V2 := K3.trans (stV2.mono K3.size)
  have y2' := y2.out
  clear A3 B3 R3 z3 K3 stV2 hb4 X1 y1 y2
  obtain ⟨a0, a1, a2, a3, -, -, -, -⟩ := A4.out
  obtain ⟨x0, x1, xf0, xf1⟩ := X2.out
  obtain ⟨t0, t1, tf0, tf1⟩ := Y2.out
  go_upto_region 16 with fail
  refine wp_world ?_
  intro V3 hV3
  have ne1 : w3.heap.size ≠ w4.heap.size := by omega
  have ne2 : ¬ w4.heap.size = w3.heap.size := by omega
  have ne3 : w3.heap.size < V2.heap.size := by omega
  have P3 : Hid (V2.heap.size < V3.heap.size) := by rw [hV3]; exact (show V2.heap.size < _ from (by simp))
  have A5 : Hid (BlkV V3 w.heap.size 1 n d s) := by
    have q1 : ¬ w3.heap.size = w.heap.size := by omega
    have q2 : ¬ w4.heap.size = w.heap.size := by omega
    have q3 : w.heap.size < V2.heap.size := by omega
    obtain ⟨u0, u1, u2, u3, v0, v1, v2, v3⟩ := A4.out
    rw [hV3]; constructor <;> simp (maxDischargeDepth := 12) [go_sem, *]
  have R5 : Hid (BlkV V3 (w.heap.size + 1 + 1) 0 0 0 ⟨#[]⟩) := by
    have q1 : ¬ w3.heap.size = w.heap.size + 1 + 1 := by omega
    have q2 : ¬ w4.heap.size = w.heap.size + 1 + 1 := by omega
    obtain ⟨u0, u1, u2, u3, v0, v1, v2, v3⟩ := R4.out
    rw [hV3]; constructor <;> simp (maxDischargeDepth := 12) [go_sem, *]
  have X3 : Hid (Blk2 V3 w3.heap.size n 1) := by rw [hV3]; constructor <;> simp (maxDischargeDepth := 12) [go_sem, *]
  have Y3 : Hid (Blk2 V3 w4.heap.size n' 1) := by rw [hV3]; constructor <;> simp (maxDischargeDepth := 12) [go_sem, *]
  have Z3 : Hid (Blk2 V3 V2.heap.size 0 0) := by rw [hV3]; constructor <;> simp (maxDischargeDepth := 12) [go_sem, *]
  have K5 : Below w.heap.size w V3 := by rw [hV3]; exact (by repeat' (first | (with_reducible exact Below.refl _ _) | (with_reducible assumption) | (with_reducible refine bdrewN _ ?_) | (with_reducible refine Below.alloc ?_ ?_ _) | (with_reducible refine Below.setCell ?_ ?_ _) | (with_reducible refine Below.drew ?_) | go_size | (simp; omega)))
  clear hV3 A4 R4 X2 Y2 K4 a0 a1 a2 a3 x0 x1 xf0 xf1 t0 t1 tf0 tf1
  have p3 := P3.out
  obtain ⟨x0, x1, xf0, xf1⟩ := X3.out
  obtain ⟨t0, t1, tf0, tf1⟩ := Y3.out
  go_wp2_with fail
  refine (CA _).mono ?_
  rintro e w5 ⟨rfl, hb5⟩
  clear x0 x1 xf0 xf1 t0 t1 tf0 tf1 X3 Y3
  have A6 : Hid (BlkV w5 w.heap.size 1 n d s) := A5.out.below hb5 (by omega)
  have R6 : Hid (BlkV w5 (w.heap.size + 1 + 1) 0 0 0 ⟨#[]⟩) := R5.out.below hb5 (by omega)
  have Z6 : Hid (Blk2 w5 V2.heap.size 0 0) := Z3.out.below hb5 (by omega)
  have K6 : Below w.heap.size w w5 := K5.trans (hb5.mono K5.size)
  have l5 := hb5.size
  clear A5 R5 Z3 K5 hb5
  obtain ⟨x0, x1, xf0, xf1⟩ := Z6.out
  go_upto_region 22 with fail
  refine wp_world ?_
  intro V4 hV4
  have A7 : Hid (BlkV V4 w.heap.size 1 n d s) := by
    have q1 : ¬ V2.heap.size = w.heap.size := by omega
    obtain ⟨u0, u1, u2, u3, v0, v1, v2, v3⟩ := A6.out
    rw [hV4]; constructor <;> simp (maxDischargeDepth := 12) [go_sem, *]
  have R7 : Hid (BlkV V4 (w.heap.size + 1 + 1) 0 0 0 ⟨#[]⟩) := by
    have q1 : ¬ V2.heap.size = w.heap.size + 1 + 1 := by omega
    obtain ⟨u0, u1, u2, u3, v0, v1, v2, v3⟩ := R6.out
    rw [hV4]; constructor <;> simp (maxDischargeDepth := 12) [go_sem, *]
  have Z7 : Hid (Blk2 V4 V2.heap.size N D) := by rw [hV4]; constructor <;> simp (maxDischargeDepth := 12) [go_sem, *]
  have K7 : Below w.heap.size w V4 := by rw [hV4]; exact (by repeat' (first | (with_reducible exact Below.refl _ _) | (with_reducible assumption) | (with_reducible refine bdrewN _ ?_) | (with_reducible refine Below.alloc ?_ ?_ _) | (with_reducible refine Below.setCell ?_ ?_ _) | (with_reducible refine Below.drew ?_) | go_size | (simp; omega)))
  clear hV4 A6 R6 Z6 K6 x0 x1 xf0 xf1
  obtain ⟨a0, a1, a2, a3, -, -, -, -⟩ := A7.out
  obtain ⟨q0, q1, -, -⟩ := Z7.out
  by_cases hE : E = 0
  · subst hE
    obtain ⟨r0, r1, r2, r3, r4, r5, r6, r7⟩ := R7.out
    go_wp2
    generalize hW9 : World.setCell _ _ _ = W9
    have b9 : BlkV W9 (w.heap.size + 1 + 1) 1 N 0 ⟨#[]⟩ := by rw [← hW9]; exact R7.out.four
    have hB9 : Below w.heap.size w W9 := by rw [← hW9]; exact (by repeat' (first | (with_reducible exact Below.refl _ _) | (with_reducible assumption) | (with_reducible refine bdrewN _ ?_) | (with_reducible refine Below.alloc ?_ ?_ _) | (with_reducible refine Below.setCell ?_ ?_ _) | (with_reducible refine Below.drew ?_) | go_size | (simp; omega)))
    clear hW9
    obtain ⟨x0, x1, x2, x3, -, -, -, -⟩ := b9
    refine bodyPost_ret (by simp [results, Tryz.results22, go_sem, x0, x1, x2, x3]; try rfl) rfl ?_
    exact ⟨by simp, hB9⟩
  · have hE1 : (E != 0) = true := by simpa using hE
    obtain ⟨r0, r1, r2, r3, r4, r5, r6, r7⟩ := R7.out
    go_wp2
    generalize hW9 : World.setCell _ _ _ = W9
    have b9 : BlkV W9 (w.heap.size + 1 + 1) 0 0 0 ⟨#[]⟩ := by rw [← hW9]; exact R7.out.four
    have hB9 : Below w.heap.size w W9 := by rw [← hW9]; exact (by repeat' (first | (with_reducible exact Below.refl _ _) | (with_reducible assumption) | (with_reducible refine bdrewN _ ?_) | (with_reducible refine Below.alloc ?_ ?_ _) | (with_reducible refine Below.setCell ?_ ?_ _) | (with_reducible refine Below.drew ?_) | go_size | (simp; omega)))
    clear hW9
    obtain ⟨x0, x1, x2, x3, -, -, -, -⟩ := b9
    refine bodyPost_ret (by simp [results, Tryz.results22, go_sem, x0, x1, x2, x3]; try rfl) rfl ?_
    exact ⟨by simp, hB9⟩

end Go.Proofs.YtedoahibceeklaaGreatDoor

namespace Go.Proofs.YtedoahibceeklaaGreatDoor
open Go.RowKit Go.Shelf
set_option linter.unusedVariables false

set_option maxRecDepth 100000 in
set_option maxHeartbeats 2000000 in
theorem drk_Mul2 (N D E n d : Int) (s : ByteArray) (n' d' : Int) (s' : ByteArray) (w : World) (h1 : -9223372036854775808 ≤ n) (h2 : n ≤ 9223372036854775807) (g1 : -9223372036854775808 ≤ d) (g2 : d ≤ 9223372036854775807) (h1' : -9223372036854775808 ≤ n') (h2' : n' ≤ 9223372036854775807) (g1' : -9223372036854775808 ≤ d') (g2' : d' ≤ 9223372036854775807) (c1 : chk 2 n d s = 0) (c2 : chk 2 n' d' s' = 0) (CA : ∀ W : World, Calls Tryz.prog 39 #[.agg #[.int .i64 n, .int .i64 d], .agg #[.int .i64 n', .int .i64 d']] W fun e w' => e = .returned (.tuple #[.agg #[.int .i64 N, .int .i64 D], .int .i64 E]) ∧ Below W.heap.size W w') :
    Calls Tryz.prog 22 #[.int .i64 3, .agg #[.int .i64 2, .int .i64 n, .int .i64 d, .string s], .agg #[.int .i64 2, .int .i64 n', .int .i64 d', .string s']] w fun e w' => e = .returned (.tuple #[.agg #[.int .i64 (if E = 0 then 2 else 0), .int .i64 (if E = 0 then N else 0), .int .i64 (if E = 0 then D else 0), .string ⟨#[]⟩], .int .i64 (E)]) ∧ Below w.heap.size w w' := by
  go_enter Tryz.func22, Tryz.ntmps22
  go_upto_region 1 with fail
  refine wp_world ?_
  intro W0 hW0
  have A0 : Hid (BlkV W0 w.heap.size 2 n d s) := by rw [hW0]; constructor <;> simp (maxDischargeDepth := 12) [go_sem]
  have B0 : Hid (BlkV W0 (w.heap.size + 1) 2 n' d' s') := by rw [hW0]; constructor <;> simp (maxDischargeDepth := 12) [go_sem]
  have R0 : Hid (BlkV W0 (w.heap.size + 1 + 1) 0 0 0 ⟨#[]⟩) := by rw [hW0]; constructor <;> simp (maxDischargeDepth := 12) [go_sem]
  have z0 : w.heap.size + 1 + 1 < W0.heap.size := by rw [hW0]; simp
  have K0 : Below w.heap.size w W0 := by rw [hW0]; exact (by repeat' (first | (with_reducible exact Below.refl _ _) | (with_reducible assumption) | (with_reducible refine bdrewN _ ?_) | (with_reducible refine Below.alloc ?_ ?_ _) | (with_reducible refine Below.setCell ?_ ?_ _) | (with_reducible refine Below.drew ?_) | go_size | (simp; omega)))
  clear hW0
  obtain ⟨a0, a1, a2, a3, -, -, -, -⟩ := A0.out
  go_wp2_with fail
  refine (rcheck_any 2 n d s _ h1 h2 g1 g2).mono ?_
  rintro e w1 ⟨rfl, hb1⟩
  clear a0 a1 a2 a3
  have A1 : Hid (BlkV w1 w.heap.size 2 n d s) := A0.out.below hb1 (by omega)
  have B1 : Hid (BlkV w1 (w.heap.size + 1) 2 n' d' s') := B0.out.below hb1 (by omega)
  have R1 : Hid (BlkV w1 (w.heap.size + 1 + 1) 0 0 0 ⟨#[]⟩) := R0.out.below hb1 z0
  have z1 : w.heap.size + 1 + 1 < w1.heap.size := by have := hb1.size; omega
  have K1 : Below w.heap.size w w1 := K0.trans (hb1.mono K0.size)
  clear A0 B0 R0 z0 K0 hb1
  rw [c1]
  obtain ⟨a0, a1, a2, a3, -, -, -, -⟩ := B1.out
  go_wp2_with fail
  refine (rcheck_any 2 n' d' s' _ h1' h2' g1' g2').mono ?_
  rintro e w2 ⟨rfl, hb2⟩
  clear a0 a1 a2 a3
  have A2 : Hid (BlkV w2 w.heap.size 2 n d s) := A1.out.below hb2 (by omega)
  have B2 : Hid (BlkV w2 (w.heap.size + 1) 2 n' d' s') := B1.out.below hb2 (by omega)
  have R2 : Hid (BlkV w2 (w.heap.size + 1 + 1) 0 0 0 ⟨#[]⟩) := R1.out.below hb2 z1
  have z2 : w.heap.size + 1 + 1 < w2.heap.size := by have := hb2.size; omega
  have K2 : Below w.heap.size w w2 := K1.trans (hb2.mono K1.size)
  clear A1 B1 R1 z1 K1 hb2
  rw [c2]
  obtain ⟨a0, a1, a2, a3, -, -, -, -⟩ := A2.out
  obtain ⟨b0, b1, b2, b3, -, -, -, -⟩ := B2.out
  go_wp2_with fail
  refine (rfrac_any 2 n d s _).mono ?_
  rintro e w3 ⟨rfl, hb3⟩
  clear a0 a1 a2 a3 b0 b1 b2 b3
  have l3 := hb3.size
  go_upto_region 10 with fail
  refine wp_world ?_
  intro V1 hV1
  have stV1 : Below w2.heap.size w2 V1 := by rw [hV1]; exact (hb3.alloc hb3.size _)
  have X1 : Hid (Blk2 V1 w3.heap.size n d) := by rw [hV1]; constructor <;> simp (maxDischargeDepth := 12) [go_sem]
  have y1 : Hid (w3.heap.size < V1.heap.size) := by rw [hV1]; exact (show w3.heap.size < _ from (by simp))
  clear hV1
  have A3 : Hid (BlkV V1 w.heap.size 2 n d s) := A2.out.below stV1 (by omega)
  have B3 : Hid (BlkV V1 (w.heap.size + 1) 2 n' d' s') := B2.out.below stV1 (by omega)
  have R3 : Hid (BlkV V1 (w.heap.size + 1 + 1) 0 0 0 ⟨#[]⟩) := R2.out.below stV1 z2
  have z3 : w.heap.size + 1 + 1 < V1.heap.size := by have := stV1.size; omega
  have zx : w.heap.size + 1 + 1 < w3.heap.size := by omega
  have K3 : Below w.heap.size w V1 := K2.trans (stV1.mono K2.size)
  clear A2 B2 R2 z2 K2 stV1 hb3
  obtain ⟨b0, b1, b2, b3, -, -, -, -⟩ := B3.out
  go_wp2_with fail
  refine (rfrac_any 2 n' d' s' _).mono ?_
  rintro e w4 ⟨rfl, hb4⟩
  clear b0 b1 b2 b3
  have l4 := hb4.size
  go_upto_region 11 with fail
  refine wp_world ?_
  intro V2 hV2
  have stV2 : Below V1.heap.size V1 V2 := by rw [hV2]; exact (hb4.alloc hb4.size _)
  have Y2 : Hid (Blk2 V2 w4.heap.size n' d') := by rw [hV2]; constructor <;> simp (maxDischargeDepth := 12) [go_sem]
  have y2 : Hid (w4.heap.size < V2.heap.size) := by rw [hV2]; exact (show w4.heap.size < _ from (by simp))
  clear hV2
  have A4 : Hid (BlkV V2 w.heap.size 2 n d s) := A3.out.below stV2 (by omega)
  have R4 : Hid (BlkV V2 (w.heap.size + 1 + 1) 0 0 0 ⟨#[]⟩) := R3.out.below stV2 z3
  have X2 : Hid (Blk2 V2 w3.heap.size n d) := X1.out.below stV2 y1.out
  have z4 : w.heap.size + 1 + 1 < V2.heap.size := by have := stV2.size; omega
  have zy : w3.heap.size < w4.heap.size := by have := y1.out; omega
  have K4 : Below w.heap.size w V2 := K3.trans (stV2.mono K3.size)
  have y2' := y2.out
  clear A3 B3 R3 z3 K3 stV2 hb4 X1 y1 y2
  obtain ⟨a0, a1, a2, a3, -, -, -, -⟩ := A4.out
  obtain ⟨x0, x1, xf0, xf1⟩ := X2.out
  obtain ⟨t0, t1, tf0, tf1⟩ := Y2.out
  go_upto_region 16 with fail
  refine wp_world ?_
  intro V3 hV3
  have ne1 : w3.heap.size ≠ w4.heap.size := by omega
  have ne2 : ¬ w4.heap.size = w3.heap.size := by omega
  have ne3 : w3.heap.size < V2.heap.size := by omega
  have P3 : Hid (V2.heap.size < V3.heap.size) := by rw [hV3]; exact (show V2.heap.size < _ from (by simp))
  have A5 : Hid (BlkV V3 w.heap.size 2 n d s) := by
    have q1 : ¬ w3.heap.size = w.heap.size := by omega
    have q2 : ¬ w4.heap.size = w.heap.size := by omega
    have q3 : w.heap.size < V2.heap.size := by omega
    obtain ⟨u0, u1, u2, u3, v0, v1, v2, v3⟩ := A4.out
    rw [hV3]; constructor <;> simp (maxDischargeDepth := 12) [go_sem, *]
  have R5 : Hid (BlkV V3 (w.heap.size + 1 + 1) 0 0 0 ⟨#[]⟩) := by
    have q1 : ¬ w3.heap.size = w.heap.size + 1 + 1 := by omega
    have q2 : ¬ w4.heap.size = w.heap.size + 1 + 1 := by omega
    obtain ⟨u0, u1, u2, u3, v0, v1, v2, v3⟩ := R4.out
    rw [hV3]; constructor <;> simp (maxDischargeDepth := 12) [go_sem, *]
  have X3 : Hid (Blk2 V3 w3.heap.size n d) := by rw [hV3]; constructor <;> simp (maxDischargeDepth := 12) [go_sem, *]
  have Y3 : Hid (Blk2 V3 w4.heap.size n' d') := by rw [hV3]; constructor <;> simp (maxDischargeDepth := 12) [go_sem, *]
  have Z3 : Hid (Blk2 V3 V2.heap.size 0 0) := by rw [hV3]; constructor <;> simp (maxDischargeDepth := 12) [go_sem, *]
  have K5 : Below w.heap.size w V3 := by rw [hV3]; exact (by repeat' (first | (with_reducible exact Below.refl _ _) | (with_reducible assumption) | (with_reducible refine bdrewN _ ?_) | (with_reducible refine Below.alloc ?_ ?_ _) | (with_reducible refine Below.setCell ?_ ?_ _) | (with_reducible refine Below.drew ?_) | go_size | (simp; omega)))
  clear hV3 A4 R4 X2 Y2 K4 a0 a1 a2 a3 x0 x1 xf0 xf1 t0 t1 tf0 tf1
  have p3 := P3.out
  obtain ⟨x0, x1, xf0, xf1⟩ := X3.out
  obtain ⟨t0, t1, tf0, tf1⟩ := Y3.out
  go_wp2_with fail
  refine (CA _).mono ?_
  rintro e w5 ⟨rfl, hb5⟩
  clear x0 x1 xf0 xf1 t0 t1 tf0 tf1 X3 Y3
  have A6 : Hid (BlkV w5 w.heap.size 2 n d s) := A5.out.below hb5 (by omega)
  have R6 : Hid (BlkV w5 (w.heap.size + 1 + 1) 0 0 0 ⟨#[]⟩) := R5.out.below hb5 (by omega)
  have Z6 : Hid (Blk2 w5 V2.heap.size 0 0) := Z3.out.below hb5 (by omega)
  have K6 : Below w.heap.size w w5 := K5.trans (hb5.mono K5.size)
  have l5 := hb5.size
  clear A5 R5 Z3 K5 hb5
  obtain ⟨x0, x1, xf0, xf1⟩ := Z6.out
  go_upto_region 22 with fail
  refine wp_world ?_
  intro V4 hV4
  have A7 : Hid (BlkV V4 w.heap.size 2 n d s) := by
    have q1 : ¬ V2.heap.size = w.heap.size := by omega
    obtain ⟨u0, u1, u2, u3, v0, v1, v2, v3⟩ := A6.out
    rw [hV4]; constructor <;> simp (maxDischargeDepth := 12) [go_sem, *]
  have R7 : Hid (BlkV V4 (w.heap.size + 1 + 1) 0 0 0 ⟨#[]⟩) := by
    have q1 : ¬ V2.heap.size = w.heap.size + 1 + 1 := by omega
    obtain ⟨u0, u1, u2, u3, v0, v1, v2, v3⟩ := R6.out
    rw [hV4]; constructor <;> simp (maxDischargeDepth := 12) [go_sem, *]
  have Z7 : Hid (Blk2 V4 V2.heap.size N D) := by rw [hV4]; constructor <;> simp (maxDischargeDepth := 12) [go_sem, *]
  have K7 : Below w.heap.size w V4 := by rw [hV4]; exact (by repeat' (first | (with_reducible exact Below.refl _ _) | (with_reducible assumption) | (with_reducible refine bdrewN _ ?_) | (with_reducible refine Below.alloc ?_ ?_ _) | (with_reducible refine Below.setCell ?_ ?_ _) | (with_reducible refine Below.drew ?_) | go_size | (simp; omega)))
  clear hV4 A6 R6 Z6 K6 x0 x1 xf0 xf1
  obtain ⟨a0, a1, a2, a3, -, -, -, -⟩ := A7.out
  obtain ⟨q0, q1, -, -⟩ := Z7.out
  by_cases hE : E = 0
  · subst hE
    obtain ⟨r0, r1, r2, r3, r4, r5, r6, r7⟩ := R7.out
    go_wp2
    generalize hW9 : World.setCell _ _ _ = W9
    have b9 : BlkV W9 (w.heap.size + 1 + 1) 2 N D ⟨#[]⟩ := by rw [← hW9]; exact R7.out.four
    have hB9 : Below w.heap.size w W9 := by rw [← hW9]; exact (by repeat' (first | (with_reducible exact Below.refl _ _) | (with_reducible assumption) | (with_reducible refine bdrewN _ ?_) | (with_reducible refine Below.alloc ?_ ?_ _) | (with_reducible refine Below.setCell ?_ ?_ _) | (with_reducible refine Below.drew ?_) | go_size | (simp; omega)))
    clear hW9
    obtain ⟨x0, x1, x2, x3, -, -, -, -⟩ := b9
    refine bodyPost_ret (by simp [results, Tryz.results22, go_sem, x0, x1, x2, x3]; try rfl) rfl ?_
    exact ⟨by simp, hB9⟩
  · have hE1 : (E != 0) = true := by simpa using hE
    obtain ⟨r0, r1, r2, r3, r4, r5, r6, r7⟩ := R7.out
    go_wp2
    generalize hW9 : World.setCell _ _ _ = W9
    have b9 : BlkV W9 (w.heap.size + 1 + 1) 0 0 0 ⟨#[]⟩ := by rw [← hW9]; exact R7.out.four
    have hB9 : Below w.heap.size w W9 := by rw [← hW9]; exact (by repeat' (first | (with_reducible exact Below.refl _ _) | (with_reducible assumption) | (with_reducible refine bdrewN _ ?_) | (with_reducible refine Below.alloc ?_ ?_ _) | (with_reducible refine Below.setCell ?_ ?_ _) | (with_reducible refine Below.drew ?_) | go_size | (simp; omega)))
    clear hW9
    obtain ⟨x0, x1, x2, x3, -, -, -, -⟩ := b9
    refine bodyPost_ret (by simp [results, Tryz.results22, go_sem, x0, x1, x2, x3]; try rfl) rfl ?_
    exact ⟨by simp, hB9⟩

end Go.Proofs.YtedoahibceeklaaGreatDoor
