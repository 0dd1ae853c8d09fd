/- What is reckoned with two values. -/
import Derived.Test.YtedoahibceeklabGreatDoorVReck0
namespace Go.Proofs.YtedoahibceeklabGreatDoor
open Go.RowKit Go.Shelf

set_option maxRecDepth 100000 in
set_option maxHeartbeats 2000000 in
theorem rk_chk1 (m k n d : Int) (s : ByteArray) (k' n' d' : Int) (s' : ByteArray) (w : World) (h1 : -9223372036854775808 ≤ n) (h2 : n ≤ 9223372036854775807) (g1 : -9223372036854775808 ≤ d) (g2 : d ≤ 9223372036854775807) (_h1' : -9223372036854775808 ≤ n') (_h2' : n' ≤ 9223372036854775807) (_g1' : -9223372036854775808 ≤ d') (_g2' : d' ≤ 9223372036854775807) (c1 : (chk k n d s != 0) = true) :
    Calls Tryz.prog 20 #[.int .i64 m, .agg #[.int .i64 k, .int .i64 n, .int .i64 d, .string s], .agg #[.int .i64 k', .int .i64 n', .int .i64 d', .string s']] w fun e w' => e = .returned (.tuple #[.agg #[.int .i64 (0), .int .i64 (0), .int .i64 (0), .string ⟨#[]⟩], .int .i64 (chk k n d s)]) ∧ Below w.heap.size w w' := by
  go_enter Tryz.func20, Tryz.ntmps20
  go_upto_region 1 with fail
  refine wp_world ?_
  intro W0 hW0
  have A0 : Hid (BlkV W0 w.heap.size k n d s) := by rw [hW0]; constructor <;> simp (maxDischargeDepth := 12) [go_sem]
  have B0 : Hid (BlkV W0 (w.heap.size + 1) k' n' d' s') := by rw [hW0]; constructor <;> simp (maxDischargeDepth := 12) [go_sem]
  have R0 : Hid (BlkV W0 (w.heap.size + 1 + 1) 0 0 0 ⟨#[]⟩) := by rw [hW0]; constructor <;> simp (maxDischargeDepth := 12) [go_sem]
  have z0 : w.heap.size + 1 + 1 < W0.heap.size := by rw [hW0]; simp
  have K0 : Below w.heap.size w W0 := by rw [hW0]; exact (by repeat' (first | (with_reducible exact Below.refl _ _) | (with_reducible assumption) | (with_reducible refine bdrewN _ ?_) | (with_reducible refine Below.alloc ?_ ?_ _) | (with_reducible refine Below.setCell ?_ ?_ _) | (with_reducible refine Below.drew ?_) | go_size | (simp; omega)))
  clear hW0
  obtain ⟨a0, a1, a2, a3, -, -, -, -⟩ := A0.out
  go_wp2_with fail
  refine (check_any k n d s _ h1 h2 g1 g2).mono ?_
  rintro e w1 ⟨rfl, hb1⟩
  clear a0 a1 a2 a3
  have A1 : Hid (BlkV w1 w.heap.size k n d s) := A0.out.below hb1 (by omega)
  have B1 : Hid (BlkV w1 (w.heap.size + 1) k' n' d' s') := B0.out.below hb1 (by omega)
  have R1 : Hid (BlkV w1 (w.heap.size + 1 + 1) 0 0 0 ⟨#[]⟩) := R0.out.below hb1 z0
  have z1 : w.heap.size + 1 + 1 < w1.heap.size := by have := hb1.size; omega
  have K1 : Below w.heap.size w w1 := K0.trans (hb1.mono K0.size)
  clear A0 B0 R0 z0 K0 hb1
  obtain ⟨r0, r1, r2, r3, r4, r5, r6, r7⟩ := R1.out
  go_wp2
  generalize hW9 : World.setCell _ _ _ = W9
  have b9 : BlkV W9 (w.heap.size + 1 + 1) 0 0 0 ⟨#[]⟩ := by rw [← hW9]; exact R1.out.four
  have hB9 : Below w.heap.size w W9 := by rw [← hW9]; exact (by repeat' (first | (with_reducible exact Below.refl _ _) | (with_reducible assumption) | (with_reducible refine bdrewN _ ?_) | (with_reducible refine Below.alloc ?_ ?_ _) | (with_reducible refine Below.setCell ?_ ?_ _) | (with_reducible refine Below.drew ?_) | go_size | (simp; omega)))
  clear hW9
  obtain ⟨x0, x1, x2, x3, -, -, -, -⟩ := b9
  refine bodyPost_ret (by simp [results, Tryz.results20, go_sem, x0, x1, x2, x3]; try rfl) rfl ?_
  exact ⟨rfl, hB9⟩

set_option maxRecDepth 100000 in
set_option maxHeartbeats 2000000 in
theorem rk_chk2 (m k n d : Int) (s : ByteArray) (k' n' d' : Int) (s' : ByteArray) (w : World) (h1 : -9223372036854775808 ≤ n) (h2 : n ≤ 9223372036854775807) (g1 : -9223372036854775808 ≤ d) (g2 : d ≤ 9223372036854775807) (h1' : -9223372036854775808 ≤ n') (h2' : n' ≤ 9223372036854775807) (g1' : -9223372036854775808 ≤ d') (g2' : d' ≤ 9223372036854775807) (c1 : chk k n d s = 0) (c2 : (chk k' n' d' s' != 0) = true) :
    Calls Tryz.prog 20 #[.int .i64 m, .agg #[.int .i64 k, .int .i64 n, .int .i64 d, .string s], .agg #[.int .i64 k', .int .i64 n', .int .i64 d', .string s']] w fun e w' => e = .returned (.tuple #[.agg #[.int .i64 (0), .int .i64 (0), .int .i64 (0), .string ⟨#[]⟩], .int .i64 (chk k' n' d' s')]) ∧ Below w.heap.size w w' := by
  go_enter Tryz.func20, Tryz.ntmps20
  go_upto_region 1 with fail
  refine wp_world ?_
  intro W0 hW0
  have A0 : Hid (BlkV W0 w.heap.size k n d s) := by rw [hW0]; constructor <;> simp (maxDischargeDepth := 12) [go_sem]
  have B0 : Hid (BlkV W0 (w.heap.size + 1) k' n' d' s') := by rw [hW0]; constructor <;> simp (maxDischargeDepth := 12) [go_sem]
  have R0 : Hid (BlkV W0 (w.heap.size + 1 + 1) 0 0 0 ⟨#[]⟩) := by rw [hW0]; constructor <;> simp (maxDischargeDepth := 12) [go_sem]
  have z0 : w.heap.size + 1 + 1 < W0.heap.size := by rw [hW0]; simp
  have K0 : Below w.heap.size w W0 := by rw [hW0]; exact (by repeat' (first | (with_reducible exact Below.refl _ _) | (with_reducible assumption) | (with_reducible refine bdrewN _ ?_) | (with_reducible refine Below.alloc ?_ ?_ _) | (with_reducible refine Below.setCell ?_ ?_ _) | (with_reducible refine Below.drew ?_) | go_size | (simp; omega)))
  clear hW0
  obtain ⟨a0, a1, a2, a3, -, -, -, -⟩ := A0.out
  go_wp2_with fail
  refine (check_any k n d s _ h1 h2 g1 g2).mono ?_
  rintro e w1 ⟨rfl, hb1⟩
  clear a0 a1 a2 a3
  have A1 : Hid (BlkV w1 w.heap.size k n d s) := A0.out.below hb1 (by omega)
  have B1 : Hid (BlkV w1 (w.heap.size + 1) k' n' d' s') := B0.out.below hb1 (by omega)
  have R1 : Hid (BlkV w1 (w.heap.size + 1 + 1) 0 0 0 ⟨#[]⟩) := R0.out.below hb1 z0
  have z1 : w.heap.size + 1 + 1 < w1.heap.size := by have := hb1.size; omega
  have K1 : Below w.heap.size w w1 := K0.trans (hb1.mono K0.size)
  clear A0 B0 R0 z0 K0 hb1
  rw [c1]
  obtain ⟨a0, a1, a2, a3, -, -, -, -⟩ := B1.out
  go_wp2_with fail
  refine (check_any k' n' d' s' _ h1' h2' g1' g2').mono ?_
  rintro e w2 ⟨rfl, hb2⟩
  clear a0 a1 a2 a3
  have A2 : Hid (BlkV w2 w.heap.size k n d s) := A1.out.below hb2 (by omega)
  have B2 : Hid (BlkV w2 (w.heap.size + 1) k' n' d' s') := B1.out.below hb2 (by omega)
  have R2 : Hid (BlkV w2 (w.heap.size + 1 + 1) 0 0 0 ⟨#[]⟩) := R1.out.below hb2 z1
  have z2 : w.heap.size + 1 + 1 < w2.heap.size := by have := hb2.size; omega
  have K2 : Below w.heap.size w w2 := K1.trans (hb2.mono K1.size)
  clear A1 B1 R1 z1 K1 hb2
  obtain ⟨r0, r1, r2, r3, r4, r5, r6, r7⟩ := R2.out
  go_wp2
  generalize hW9 : World.setCell _ _ _ = W9
  have b9 : BlkV W9 (w.heap.size + 1 + 1) 0 0 0 ⟨#[]⟩ := by rw [← hW9]; exact R2.out.four
  have hB9 : Below w.heap.size w W9 := by rw [← hW9]; exact (by repeat' (first | (with_reducible exact Below.refl _ _) | (with_reducible assumption) | (with_reducible refine bdrewN _ ?_) | (with_reducible refine Below.alloc ?_ ?_ _) | (with_reducible refine Below.setCell ?_ ?_ _) | (with_reducible refine Below.drew ?_) | go_size | (simp; omega)))
  clear hW9
  obtain ⟨x0, x1, x2, x3, -, -, -, -⟩ := b9
  refine bodyPost_ret (by simp [results, Tryz.results20, go_sem, x0, x1, x2, x3]; try rfl) rfl ?_
  exact ⟨rfl, hB9⟩

set_option maxRecDepth 100000 in
set_option maxHeartbeats 2000000 in
theorem rk_kind1 (m k n d : Int) (s : ByteArray) (k' n' d' : Int) (s' : ByteArray) (w : World) (h1 : -9223372036854775808 ≤ n) (h2 : n ≤ 9223372036854775807) (g1 : -9223372036854775808 ≤ d) (g2 : d ≤ 9223372036854775807) (h1' : -9223372036854775808 ≤ n') (h2' : n' ≤ 9223372036854775807) (g1' : -9223372036854775808 ≤ d') (g2' : d' ≤ 9223372036854775807) (c1 : chk k n d s = 0) (c2 : chk k' n' d' s' = 0) (hk : (k != k') = true) :
    Calls Tryz.prog 20 #[.int .i64 m, .agg #[.int .i64 k, .int .i64 n, .int .i64 d, .string s], .agg #[.int .i64 k', .int .i64 n', .int .i64 d', .string s']] w fun e w' => e = .returned (.tuple #[.agg #[.int .i64 (0), .int .i64 (0), .int .i64 (0), .string ⟨#[]⟩], .int .i64 (20)]) ∧ Below w.heap.size w w' := by
  go_enter Tryz.func20, Tryz.ntmps20
  go_upto_region 1 with fail
  refine wp_world ?_
  intro W0 hW0
  have A0 : Hid (BlkV W0 w.heap.size k n d s) := by rw [hW0]; constructor <;> simp (maxDischargeDepth := 12) [go_sem]
  have B0 : Hid (BlkV W0 (w.heap.size + 1) k' n' d' s') := by rw [hW0]; constructor <;> simp (maxDischargeDepth := 12) [go_sem]
  have R0 : Hid (BlkV W0 (w.heap.size + 1 + 1) 0 0 0 ⟨#[]⟩) := by rw [hW0]; constructor <;> simp (maxDischargeDepth := 12) [go_sem]
  have z0 : w.heap.size + 1 + 1 < W0.heap.size := by rw [hW0]; simp
  have K0 : Below w.heap.size w W0 := by rw [hW0]; exact (by repeat' (first | (with_reducible exact Below.refl _ _) | (with_reducible assumption) | (with_reducible refine bdrewN _ ?_) | (with_reducible refine Below.alloc ?_ ?_ _) | (with_reducible refine Below.setCell ?_ ?_ _) | (with_reducible refine Below.drew ?_) | go_size | (simp; omega)))
  clear hW0
  obtain ⟨a0, a1, a2, a3, -, -, -, -⟩ := A0.out
  go_wp2_with fail
  refine (check_any k n d s _ h1 h2 g1 g2).mono ?_
  rintro e w1 ⟨rfl, hb1⟩
  clear a0 a1 a2 a3
  have A1 : Hid (BlkV w1 w.heap.size k n d s) := A0.out.below hb1 (by omega)
  have B1 : Hid (BlkV w1 (w.heap.size + 1) k' n' d' s') := B0.out.below hb1 (by omega)
  have R1 : Hid (BlkV w1 (w.heap.size + 1 + 1) 0 0 0 ⟨#[]⟩) := R0.out.below hb1 z0
  have z1 : w.heap.size + 1 + 1 < w1.heap.size := by have := hb1.size; omega
  have K1 : Below w.heap.size w w1 := K0.trans (hb1.mono K0.size)
  clear A0 B0 R0 z0 K0 hb1
  rw [c1]
  obtain ⟨a0, a1, a2, a3, -, -, -, -⟩ := B1.out
  go_wp2_with fail
  refine (check_any k' n' d' s' _ h1' h2' g1' g2').mono ?_
  rintro e w2 ⟨rfl, hb2⟩
  clear a0 a1 a2 a3
  have A2 : Hid (BlkV w2 w.heap.size k n d s) := A1.out.below hb2 (by omega)
  have B2 : Hid (BlkV w2 (w.heap.size + 1) k' n' d' s') := B1.out.below hb2 (by omega)
  have R2 : Hid (BlkV w2 (w.heap.size + 1 + 1) 0 0 0 ⟨#[]⟩) := R1.out.below hb2 z1
  have z2 : w.heap.size + 1 + 1 < w2.heap.size := by have := hb2.size; omega
  have K2 : Below w.heap.size w w2 := K1.trans (hb2.mono K1.size)
  clear A1 B1 R1 z1 K1 hb2
  rw [c2]
  obtain ⟨a0, a1, a2, a3, -, -, -, -⟩ := A2.out
  obtain ⟨b0, b1, b2, b3, -, -, -, -⟩ := B2.out
  obtain ⟨r0, r1, r2, r3, r4, r5, r6, r7⟩ := R2.out
  go_wp2
  generalize hW9 : World.setCell _ _ _ = W9
  have b9 : BlkV W9 (w.heap.size + 1 + 1) 0 0 0 ⟨#[]⟩ := by rw [← hW9]; exact R2.out.four
  have hB9 : Below w.heap.size w W9 := by rw [← hW9]; exact (by repeat' (first | (with_reducible exact Below.refl _ _) | (with_reducible assumption) | (with_reducible refine bdrewN _ ?_) | (with_reducible refine Below.alloc ?_ ?_ _) | (with_reducible refine Below.setCell ?_ ?_ _) | (with_reducible refine Below.drew ?_) | go_size | (simp; omega)))
  clear hW9
  obtain ⟨x0, x1, x2, x3, -, -, -, -⟩ := b9
  refine bodyPost_ret (by simp [results, Tryz.results20, go_sem, x0, x1, x2, x3]; try rfl) rfl ?_
  exact ⟨rfl, hB9⟩

set_option maxRecDepth 100000 in
set_option maxHeartbeats 2000000 in
theorem rk_kind2 (m k n d : Int) (s : ByteArray) (k' n' d' : Int) (s' : ByteArray) (w : World) (h1 : -9223372036854775808 ≤ n) (h2 : n ≤ 9223372036854775807) (g1 : -9223372036854775808 ≤ d) (g2 : d ≤ 9223372036854775807) (h1' : -9223372036854775808 ≤ n') (h2' : n' ≤ 9223372036854775807) (g1' : -9223372036854775808 ≤ d') (g2' : d' ≤ 9223372036854775807) (c1 : chk k n d s = 0) (c2 : chk k' n' d' s' = 0) (hk : k = 3) (hk' : k' = 3) :
    Calls Tryz.prog 20 #[.int .i64 m, .agg #[.int .i64 k, .int .i64 n, .int .i64 d, .string s], .agg #[.int .i64 k', .int .i64 n', .int .i64 d', .string s']] w fun e w' => e = .returned (.tuple #[.agg #[.int .i64 (0), .int .i64 (0), .int .i64 (0), .string ⟨#[]⟩], .int .i64 (20)]) ∧ Below w.heap.size w w' := by
  subst hk hk'
  go_enter Tryz.func20, Tryz.ntmps20
  go_upto_region 1 with fail
  refine wp_world ?_
  intro W0 hW0
  have A0 : Hid (BlkV W0 w.heap.size 3 n d s) := by rw [hW0]; constructor <;> simp (maxDischargeDepth := 12) [go_sem]
  have B0 : Hid (BlkV W0 (w.heap.size + 1) 3 n' d' s') := by rw [hW0]; constructor <;> simp (maxDischargeDepth := 12) [go_sem]
  have R0 : Hid (BlkV W0 (w.heap.size + 1 + 1) 0 0 0 ⟨#[]⟩) := by rw [hW0]; constructor <;> simp (maxDischargeDepth := 12) [go_sem]
  have z0 : w.heap.size + 1 + 1 < W0.heap.size := by rw [hW0]; simp
  have K0 : Below w.heap.size w W0 := by rw [hW0]; exact (by repeat' (first | (with_reducible exact Below.refl _ _) | (with_reducible assumption) | (with_reducible refine bdrewN _ ?_) | (with_reducible refine Below.alloc ?_ ?_ _) | (with_reducible refine Below.setCell ?_ ?_ _) | (with_reducible refine Below.drew ?_) | go_size | (simp; omega)))
  clear hW0
  obtain ⟨a0, a1, a2, a3, -, -, -, -⟩ := A0.out
  go_wp2_with fail
  refine (check_any 3 n d s _ h1 h2 g1 g2).mono ?_
  rintro e w1 ⟨rfl, hb1⟩
  clear a0 a1 a2 a3
  have A1 : Hid (BlkV w1 w.heap.size 3 n d s) := A0.out.below hb1 (by omega)
  have B1 : Hid (BlkV w1 (w.heap.size + 1) 3 n' d' s') := B0.out.below hb1 (by omega)
  have R1 : Hid (BlkV w1 (w.heap.size + 1 + 1) 0 0 0 ⟨#[]⟩) := R0.out.below hb1 z0
  have z1 : w.heap.size + 1 + 1 < w1.heap.size := by have := hb1.size; omega
  have K1 : Below w.heap.size w w1 := K0.trans (hb1.mono K0.size)
  clear A0 B0 R0 z0 K0 hb1
  rw [c1]
  obtain ⟨a0, a1, a2, a3, -, -, -, -⟩ := B1.out
  go_wp2_with fail
  refine (check_any 3 n' d' s' _ h1' h2' g1' g2').mono ?_
  rintro e w2 ⟨rfl, hb2⟩
  clear a0 a1 a2 a3
  have A2 : Hid (BlkV w2 w.heap.size 3 n d s) := A1.out.below hb2 (by omega)
  have B2 : Hid (BlkV w2 (w.heap.size + 1) 3 n' d' s') := B1.out.below hb2 (by omega)
  have R2 : Hid (BlkV w2 (w.heap.size + 1 + 1) 0 0 0 ⟨#[]⟩) := R1.out.below hb2 z1
  have z2 : w.heap.size + 1 + 1 < w2.heap.size := by have := hb2.size; omega
  have K2 : Below w.heap.size w w2 := K1.trans (hb2.mono K1.size)
  clear A1 B1 R1 z1 K1 hb2
  rw [c2]
  obtain ⟨a0, a1, a2, a3, -, -, -, -⟩ := A2.out
  obtain ⟨b0, b1, b2, b3, -, -, -, -⟩ := B2.out
  obtain ⟨r0, r1, r2, r3, r4, r5, r6, r7⟩ := R2.out
  go_wp2
  generalize hW9 : World.setCell _ _ _ = W9
  have b9 : BlkV W9 (w.heap.size + 1 + 1) 0 0 0 ⟨#[]⟩ := by rw [← hW9]; exact R2.out.four
  have hB9 : Below w.heap.size w W9 := by rw [← hW9]; exact (by repeat' (first | (with_reducible exact Below.refl _ _) | (with_reducible assumption) | (with_reducible refine bdrewN _ ?_) | (with_reducible refine Below.alloc ?_ ?_ _) | (with_reducible refine Below.setCell ?_ ?_ _) | (with_reducible refine Below.drew ?_) | go_size | (simp; omega)))
  clear hW9
  obtain ⟨x0, x1, x2, x3, -, -, -, -⟩ := b9
  refine bodyPost_ret (by simp [results, Tryz.results20, go_sem, x0, x1, x2, x3]; try rfl) rfl ?_
  exact ⟨rfl, hB9⟩

end Go.Proofs.YtedoahibceeklabGreatDoor
