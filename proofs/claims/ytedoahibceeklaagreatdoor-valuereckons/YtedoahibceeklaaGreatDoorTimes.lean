/- The document's product of two numbers of 64 bits. -/
import Derived.Test.YtedoahibceeklaaGreatDoorBig
import Derived.Test.YtedoahibceeklaaGreatDoorAny
import Derived.Test.YtedoahibceeklaaGreatDoorDivd1
namespace Go.Proofs.YtedoahibceeklaaGreatDoor
open Go.RowKit

set_option maxHeartbeats 400000 in
theorem rof_ex (n : Int) (w : World) (h1 : 0 ≤ n) (h2 : n ≤ 18446744073709551615) :
    Calls Tryz.prog 67 #[.int .u64 n] w fun e w' => e = .returned (.agg #[.int .u64 (g0 n), .int .u64 (g1 n), .int .u64 0, .int .u64 0]) ∧ ∃ c1 c2 : Array Value, w' = (w.alloc (.cells c1 70)).alloc (.cells c2 70) := by
  go_enter Tryz.func67, Tryz.ntmps67
  go_wp2
  go_returns
  exact ⟨ret_big (by unfold g0; rfl) (by unfold g1; omega) rfl rfl, _, _, rfl⟩

set_option maxRecDepth 100000 in
set_option maxHeartbeats 4000000 in
theorem rtimes_raw (x y a0 a1 b0 b1 A B C D N1 N2 N3 : Int) (w : World) (hx : 0 ≤ x) (hx' : x ≤ 18446744073709551615) (hy : 0 ≤ y) (hy' : y ≤ 18446744073709551615) (e0 : g0 x = a0) (e1 : g1 x = a1) (f0 : g0 y = b0) (f1 : g1 y = b1)
    (eA : a0 * b0 = A) (eB : a0 * b1 = B) (eC : a1 * b0 = C) (eD : a1 * b1 = D) (hA : 0 ≤ A) (hA' : A ≤ 18446744065119617025) (hB : 0 ≤ B) (hB' : B ≤ 18446744065119617025) (hC : 0 ≤ C) (hC' : C ≤ 18446744065119617025) (hD : 0 ≤ D) (hD' : D ≤ 18446744065119617025)
    (eN1 : B + A / 4294967296 = N1) (hN1 : 0 ≤ N1) (hN1' : N1 ≤ 18446744073709551615) (eN2 : N1 % 4294967296 + C = N2) (hN2 : 0 ≤ N2) (hN2' : N2 ≤ 18446744073709551615) (eN3 : N1 / 4294967296 + D + N2 / 4294967296 = N3) (hN3 : 0 ≤ N3) (hN3' : N3 ≤ 18446744073709551615) :
    Calls Tryz.prog 46 #[.int .u64 x, .int .u64 y] w fun e w' => e = .returned (.agg #[.int .u64 (A % 4294967296), .int .u64 (N2 % 4294967296), .int .u64 (N3 % 4294967296), .int .u64 (N3 / 4294967296)]) ∧ Below w.heap.size w w' := by
  go_enter Tryz.func46, Tryz.ntmps46
  go_wp2_with fail
  refine (rof_ex x _ hx hx').mono ?_
  rintro e w1 ⟨rfl, c1, c2, rfl⟩
  go_wp2_with fail
  refine (rof_ex y _ hy hy').mono ?_
  rintro e w1 ⟨rfl, c3, c4, rfl⟩
  go_wp2
  refine wp_loop_rounds 3 ?_
  rw [rounds_succ]
  go_wp2
  refine wp_loop_rounds 3 ?_
  rw [rounds_succ]
  go_wp2
  go_quiet (fail)
  go_wp2
  rw [rounds_succ]
  go_wp2
  go_quiet (fail)
  go_wp2
  rw [rounds_succ]
  go_wp2
  rw [rounds_succ]
  go_wp2
  refine wp_loop_rounds 3 ?_
  rw [rounds_succ]
  go_wp2
  go_quiet (fail)
  go_wp2
  rw [rounds_succ]
  go_wp2
  go_quiet (fail)
  go_wp2
  rw [rounds_succ]
  refine wp_world ?_
  intro W hW
  have o0 : W.cell? ⟨w.heap.size + 1 + 1 + 1 + 1 + 1 + 1 + 1, 0, none⟩ = some (.int .u64 (A % 4294967296)) := by rw [hW]; simp (maxDischargeDepth := 12) [go_sem]
  have o1 : W.cell? ⟨w.heap.size + 1 + 1 + 1 + 1 + 1 + 1 + 1, 1, none⟩ = some (.int .u64 (N2 % 4294967296)) := by rw [hW]; simp (maxDischargeDepth := 12) [go_sem]
  have o2 : W.cell? ⟨w.heap.size + 1 + 1 + 1 + 1 + 1 + 1 + 1, 2, none⟩ = some (.int .u64 (N3 % 4294967296)) := by rw [hW]; simp (maxDischargeDepth := 12) [go_sem]
  have o3 : W.cell? ⟨w.heap.size + 1 + 1 + 1 + 1 + 1 + 1 + 1, 3, none⟩ = some (.int .u64 (0)) := by rw [hW]; simp (maxDischargeDepth := 12) [go_sem]
  have p3 : W.frozen? ⟨w.heap.size + 1 + 1 + 1 + 1 + 1 + 1 + 1, 3, none⟩ = false := by rw [hW]; simp (maxDischargeDepth := 12) [go_sem]
  have r0 : W.cell? ⟨w.heap.size, 0, none⟩ = some (.int .u64 0) := by rw [hW]; simp (maxDischargeDepth := 12) [go_sem]
  have s0 : W.frozen? ⟨w.heap.size, 0, none⟩ = false := by rw [hW]; simp (maxDischargeDepth := 12) [go_sem]
  have r1 : W.cell? ⟨w.heap.size, 1, none⟩ = some (.int .u64 0) := by rw [hW]; simp (maxDischargeDepth := 12) [go_sem]
  have s1 : W.frozen? ⟨w.heap.size, 1, none⟩ = false := by rw [hW]; simp (maxDischargeDepth := 12) [go_sem]
  have r2 : W.cell? ⟨w.heap.size, 2, none⟩ = some (.int .u64 0) := by rw [hW]; simp (maxDischargeDepth := 12) [go_sem]
  have s2 : W.frozen? ⟨w.heap.size, 2, none⟩ = false := by rw [hW]; simp (maxDischargeDepth := 12) [go_sem]
  have r3 : W.cell? ⟨w.heap.size, 3, none⟩ = some (.int .u64 0) := by rw [hW]; simp (maxDischargeDepth := 12) [go_sem]
  have s3 : W.frozen? ⟨w.heap.size, 3, none⟩ = false := by rw [hW]; simp (maxDischargeDepth := 12) [go_sem]
  have hBW : Below w.heap.size w W := by rw [hW]; repeat' (first | (with_reducible exact Below.refl _ _) | (with_reducible assumption) | (with_reducible refine bdrewN _ ?_) | (with_reducible refine Below.alloc ?_ ?_ _) | (with_reducible refine Below.setCell ?_ ?_ _) | (with_reducible refine Below.drew ?_) | go_size)
  clear hW eA eB eC eD eN1 eN2 eN3 e0 e1 f0 f1
  go_wp2
  rw [rounds_succ]
  go_wp2
  refine bodyPost_ret (by simp [results, Tryz.results46, go_sem, r0, r1, r2, r3]; try rfl) rfl ?_
  exact ⟨rfl, by repeat' (first | (with_reducible exact Below.refl _ _) | (with_reducible assumption) | (with_reducible refine bdrewN _ ?_) | (with_reducible refine Below.alloc ?_ ?_ _) | (with_reducible refine Below.setCell ?_ ?_ _) | (with_reducible refine Below.drew ?_) | go_size)⟩

theorem rtimes_any (x y : Int) (w : World) (hx : 0 ≤ x) (hx' : x ≤ 18446744073709551615) (hy : 0 ≤ y) (hy' : y ≤ 18446744073709551615) :
    Calls Tryz.prog 46 #[.int .u64 x, .int .u64 y] w fun e w' => e = .returned (.agg #[.int .u64 (g0 (x * y)), .int .u64 (g1 (x * y)), .int .u64 (g2 (x * y)), .int .u64 (g3 (x * y))]) ∧ Below w.heap.size w w' := by
  have a0 := g0_bd x; have a1 := g1_bd x; have b0 := g0_bd y; have b1 := g1_bd y
  have ex : x = g0 x + g1 x * 4294967296 := by unfold g0 g1; omega
  have ey : y = g0 y + g1 y * 4294967296 := by unfold g0 g1; omega
  have A := mul_bd a0.1 a0.2 b0.1 b0.2; have B := mul_bd a0.1 a0.2 b1.1 b1.2; have C := mul_bd a1.1 a1.2 b0.1 b0.2; have D := mul_bd a1.1 a1.2 b1.1 b1.2
  have exy : x * y = g0 x * g0 y + (g0 x * g1 y + g1 x * g0 y) * 4294967296 + g1 x * g1 y * 18446744073709551616 := by
    have h1 : x * y = (g0 x + g1 x * 4294967296) * (g0 y + g1 y * 4294967296) := by rw [← ex, ← ey]
    rw [h1]; grind
  have raw := rtimes_raw x y (g0 x) (g1 x) (g0 y) (g1 y) (g0 x * g0 y) (g0 x * g1 y) (g1 x * g0 y) (g1 x * g1 y) (g0 x * g1 y + g0 x * g0 y / 4294967296) ((g0 x * g1 y + g0 x * g0 y / 4294967296) % 4294967296 + g1 x * g0 y) ((g0 x * g1 y + g0 x * g0 y / 4294967296) / 4294967296 + g1 x * g1 y + ((g0 x * g1 y + g0 x * g0 y / 4294967296) % 4294967296 + g1 x * g0 y) / 4294967296) w hx hx' hy hy' rfl rfl rfl rfl rfl rfl rfl rfl A.1 (by omega) B.1 (by omega) C.1 (by omega) D.1 (by omega) rfl (by omega) (by omega) rfl (by omega) (by omega) rfl (by omega) (by omega)
  refine raw.mono ?_
  rintro e w' ⟨rfl, hb⟩
  generalize g0 x * g0 y = P at *
  generalize g0 x * g1 y = Q at *
  generalize g1 x * g0 y = R at *
  generalize g1 x * g1 y = S at *
  clear raw ex ey a0 a1 b0 b1
  have e : x * y = P % 4294967296 + ((Q + P / 4294967296) % 4294967296 + R) % 4294967296 * 4294967296 + ((Q + P / 4294967296) / 4294967296 + S + ((Q + P / 4294967296) % 4294967296 + R) / 4294967296) % 4294967296 * 18446744073709551616 + ((Q + P / 4294967296) / 4294967296 + S + ((Q + P / 4294967296) % 4294967296 + R) / 4294967296) / 4294967296 * 79228162514264337593543950336 := by
    rw [exy]; clear hb; omega
  obtain ⟨k0, k1, k2, k3⟩ := g_of (P % 4294967296) (((Q + P / 4294967296) % 4294967296 + R) % 4294967296) (((Q + P / 4294967296) / 4294967296 + S + ((Q + P / 4294967296) % 4294967296 + R) / 4294967296) % 4294967296) (((Q + P / 4294967296) / 4294967296 + S + ((Q + P / 4294967296) % 4294967296 + R) / 4294967296) / 4294967296) (by omega) (by omega) (by omega) (by omega)
  rw [← e] at k0 k1 k2 k3
  exact ⟨ret_big k0.symm k1.symm k2.symm k3.symm, hb⟩

end Go.Proofs.YtedoahibceeklaaGreatDoor
