/- The document's numbers of 128 bits, four digits of 32 bits: of, size, plus, less, compare. -/
import Derived.Test.YtedoahibceeklabGreatDoorOf
import Derived.LoopN
namespace Go.Proofs.YtedoahibceeklabGreatDoor
open Go.RowKit

/-- The digits of a number. -/
def g0 (x : Int) : Int := x % 4294967296
def g1 (x : Int) : Int := x / 4294967296 % 4294967296
def g2 (x : Int) : Int := x / 18446744073709551616 % 4294967296
def g3 (x : Int) : Int := x / 79228162514264337593543950336 % 4294967296
theorem g0_bd (x : Int) : 0 ≤ g0 x ∧ g0 x ≤ 4294967295 := by unfold g0; omega
theorem g1_bd (x : Int) : 0 ≤ g1 x ∧ g1 x ≤ 4294967295 := by unfold g1; omega
theorem g2_bd (x : Int) : 0 ≤ g2 x ∧ g2 x ≤ 4294967295 := by unfold g2; omega
theorem g3_bd (x : Int) : 0 ≤ g3 x ∧ g3 x ≤ 4294967295 := by unfold g3; omega
theorem g_sum (x : Int) (h0 : 0 ≤ x) (h1 : x < 340282366920938463463374607431768211456) : x = g0 x + g1 x * 4294967296 + g2 x * 18446744073709551616 + g3 x * 79228162514264337593543950336 := by
  unfold g0 g1 g2 g3; omega
theorem g_of (a b c d : Int) (h0 : 0 ≤ a ∧ a ≤ 4294967295) (h1 : 0 ≤ b ∧ b ≤ 4294967295) (h2 : 0 ≤ c ∧ c ≤ 4294967295) (h3 : 0 ≤ d ∧ d ≤ 4294967295) :
    g0 (a + b * 4294967296 + c * 18446744073709551616 + d * 79228162514264337593543950336) = a ∧ g1 (a + b * 4294967296 + c * 18446744073709551616 + d * 79228162514264337593543950336) = b ∧ g2 (a + b * 4294967296 + c * 18446744073709551616 + d * 79228162514264337593543950336) = c ∧ g3 (a + b * 4294967296 + c * 18446744073709551616 + d * 79228162514264337593543950336) = d := by
  unfold g0 g1 g2 g3; omega

theorem ret_big {a b c d a' b' c' d' : Int} (h0 : a = a') (h1 : b = b') (h2 : c = c') (h3 : d = d') : Ending.returned (.agg #[.int .u64 a, .int .u64 b, .int .u64 c, .int .u64 d]) = Ending.returned (.agg #[.int .u64 a', .int .u64 b', .int .u64 c', .int .u64 d']) := by rw [h0, h1, h2, h3]

set_option maxHeartbeats 400000 in
theorem rsize_any (n : Int) (w : World) (h1 : -9223372036854775808 ≤ n) (h2 : n ≤ 9223372036854775807) :
    Calls Tryz.prog 80 #[.int .i64 n] w fun e w' => e = .returned (.int .u64 (sz n)) ∧ w' = w := by
  by_cases h : n < 0
  · go_enter Tryz.func80, Tryz.ntmps80
    go_wp2
    go_ret
    exact ⟨ret_int (by rw [sz_of_neg h]; go_arith), rfl⟩
  · have h' : 0 ≤ n := by omega
    go_enter Tryz.func80, Tryz.ntmps80
    go_wp2
    go_ret
    exact ⟨ret_int (by rw [sz_of_nonneg h']), rfl⟩

set_option maxHeartbeats 400000 in
theorem rof_any (n : Int) (w : World) (h1 : 0 ≤ n) (h2 : n ≤ 18446744073709551615) :
    Calls Tryz.prog 79 #[.int .u64 n] w fun e w' => e = .returned (.agg #[.int .u64 (g0 n), .int .u64 (g1 n), .int .u64 (g2 n), .int .u64 (g3 n)]) ∧ Below w.heap.size w w' := by
  go_enter Tryz.func79, Tryz.ntmps79
  go_wp2
  go_returns
  exact ⟨ret_big (by unfold g0; rfl) (by unfold g1; omega) (by unfold g2; omega) (by unfold g3; omega), by go_grown⟩

set_option maxRecDepth 100000 in
set_option maxHeartbeats 2000000 in
theorem rplus_raw (a0 a1 a2 a3 b0 b1 b2 b3 : Int) (w : World) (p0 : 0 ≤ a0) (p1 : 0 ≤ a1) (p2 : 0 ≤ a2) (p3 : 0 ≤ a3) (q0 : 0 ≤ b0) (q1 : 0 ≤ b1) (q2 : 0 ≤ b2) (q3 : 0 ≤ b3)
    (r0 : a0 ≤ 4294967295) (r1 : a1 ≤ 4294967295) (r2 : a2 ≤ 4294967295) (r3 : a3 ≤ 4294967295) (s0 : b0 ≤ 4294967295) (s1 : b1 ≤ 4294967295) (s2 : b2 ≤ 4294967295) (s3 : b3 ≤ 4294967295) :
    Calls Tryz.prog 123 #[.agg #[.int .u64 a0, .int .u64 a1, .int .u64 a2, .int .u64 a3], .agg #[.int .u64 b0, .int .u64 b1, .int .u64 b2, .int .u64 b3]] w fun e w' => e = .returned (.agg #[.int .u64 ((a0 + b0) % 4294967296), .int .u64 ((a1 + b1 + (a0 + b0) / 4294967296) % 4294967296), .int .u64 ((a2 + b2 + (a1 + b1 + (a0 + b0) / 4294967296) / 4294967296) % 4294967296), .int .u64 ((a3 + b3 + (a2 + b2 + (a1 + b1 + (a0 + b0) / 4294967296) / 4294967296) / 4294967296) % 4294967296)]) ∧ Below w.heap.size w w' := by
  go_enter Tryz.func123, Tryz.ntmps123
  go_wp2
  refine wp_loop_rounds 5 ?_
  rw [rounds_succ]
  go_wp2
  go_quiet (fail)
  go_wp2
  rw [rounds_succ]
  go_wp2
  go_quiet (fail)
  go_wp2
  rw [rounds_succ]
  go_wp2
  go_quiet (fail)
  go_wp2
  rw [rounds_succ]
  go_wp2
  go_quiet (fail)
  go_wp2
  rw [rounds_succ]
  go_wp2
  go_returns
  exact ⟨rfl, by repeat' (first | (with_reducible exact Below.refl _ _) | (with_reducible assumption) | (with_reducible refine bdrewN _ ?_) | (with_reducible refine Below.alloc ?_ ?_ _) | (with_reducible refine Below.setCell ?_ ?_ _) | (with_reducible refine Below.drew ?_) | go_size)⟩

theorem rplus_any (x y : Int) (w : World) (hx : 0 ≤ x) (hy : 0 ≤ y) (h : x + y < 340282366920938463463374607431768211456) :
    Calls Tryz.prog 123 #[.agg #[.int .u64 (g0 x), .int .u64 (g1 x), .int .u64 (g2 x), .int .u64 (g3 x)], .agg #[.int .u64 (g0 y), .int .u64 (g1 y), .int .u64 (g2 y), .int .u64 (g3 y)]] w fun e w' => e = .returned (.agg #[.int .u64 (g0 (x + y)), .int .u64 (g1 (x + y)), .int .u64 (g2 (x + y)), .int .u64 (g3 (x + y))]) ∧ Below w.heap.size w w' := by
  have a0 := g0_bd x; have a1 := g1_bd x; have a2 := g2_bd x; have a3 := g3_bd x
  have b0 := g0_bd y; have b1 := g1_bd y; have b2 := g2_bd y; have b3 := g3_bd y
  have ex := g_sum x hx (by omega); have ey := g_sum y hy (by omega)
  refine (rplus_raw _ _ _ _ _ _ _ _ w a0.1 a1.1 a2.1 a3.1 b0.1 b1.1 b2.1 b3.1 a0.2 a1.2 a2.2 a3.2 b0.2 b1.2 b2.2 b3.2).mono ?_
  rintro e w' ⟨rfl, hb⟩
  have e : x + y = ((g0 x + g0 y) % 4294967296) + ((g1 x + g1 y + (g0 x + g0 y) / 4294967296) % 4294967296) * 4294967296 + ((g2 x + g2 y + (g1 x + g1 y + (g0 x + g0 y) / 4294967296) / 4294967296) % 4294967296) * 18446744073709551616 + ((g3 x + g3 y + (g2 x + g2 y + (g1 x + g1 y + (g0 x + g0 y) / 4294967296) / 4294967296) / 4294967296) % 4294967296) * 79228162514264337593543950336 := by
    generalize g0 x = X0 at *; generalize g1 x = X1 at *; generalize g2 x = X2 at *; generalize g3 x = X3 at *
    generalize g0 y = Y0 at *; generalize g1 y = Y1 at *; generalize g2 y = Y2 at *; generalize g3 y = Y3 at *
    clear hb
    omega
  obtain ⟨k0, k1, k2, k3⟩ := g_of ((g0 x + g0 y) % 4294967296) ((g1 x + g1 y + (g0 x + g0 y) / 4294967296) % 4294967296) ((g2 x + g2 y + (g1 x + g1 y + (g0 x + g0 y) / 4294967296) / 4294967296) % 4294967296) ((g3 x + g3 y + (g2 x + g2 y + (g1 x + g1 y + (g0 x + g0 y) / 4294967296) / 4294967296) / 4294967296) % 4294967296) (by omega) (by omega) (by omega) (by omega)
  rw [← e] at k0 k1 k2 k3
  exact ⟨ret_big k0.symm k1.symm k2.symm k3.symm, hb⟩

set_option maxRecDepth 100000 in
set_option maxHeartbeats 2000000 in
theorem rless_raw (a0 a1 a2 a3 b0 b1 b2 b3 : Int) (w : World) (p0 : 0 ≤ a0) (p1 : 0 ≤ a1) (p2 : 0 ≤ a2) (p3 : 0 ≤ a3) (q0 : 0 ≤ b0) (q1 : 0 ≤ b1) (q2 : 0 ≤ b2) (q3 : 0 ≤ b3)
    (r0 : a0 ≤ 4294967295) (r1 : a1 ≤ 4294967295) (r2 : a2 ≤ 4294967295) (r3 : a3 ≤ 4294967295) (s0 : b0 ≤ 4294967295) (s1 : b1 ≤ 4294967295) (s2 : b2 ≤ 4294967295) (s3 : b3 ≤ 4294967295) :
    Calls Tryz.prog 124 #[.agg #[.int .u64 a0, .int .u64 a1, .int .u64 a2, .int .u64 a3], .agg #[.int .u64 b0, .int .u64 b1, .int .u64 b2, .int .u64 b3]] w fun e w' => e = .returned (.agg #[.int .u64 ((a0 + 4294967296 - b0) % 4294967296), .int .u64 ((a1 + 4294967296 - b1 - (1 - (a0 + 4294967296 - b0) / 4294967296)) % 4294967296), .int .u64 ((a2 + 4294967296 - b2 - (1 - (a1 + 4294967296 - b1 - (1 - (a0 + 4294967296 - b0) / 4294967296)) / 4294967296)) % 4294967296), .int .u64 ((a3 + 4294967296 - b3 - (1 - (a2 + 4294967296 - b2 - (1 - (a1 + 4294967296 - b1 - (1 - (a0 + 4294967296 - b0) / 4294967296)) / 4294967296)) / 4294967296)) % 4294967296)]) ∧ Below w.heap.size w w' := by
  go_enter Tryz.func124, Tryz.ntmps124
  go_wp2
  refine wp_loop_rounds 5 ?_
  rw [rounds_succ]
  go_wp2
  go_quiet (fail)
  go_wp2
  rw [rounds_succ]
  go_wp2
  go_quiet (fail)
  go_wp2
  rw [rounds_succ]
  go_wp2
  go_quiet (fail)
  go_wp2
  rw [rounds_succ]
  go_wp2
  go_quiet (fail)
  go_wp2
  rw [rounds_succ]
  go_wp2
  go_returns
  exact ⟨rfl, by repeat' (first | (with_reducible exact Below.refl _ _) | (with_reducible assumption) | (with_reducible refine bdrewN _ ?_) | (with_reducible refine Below.alloc ?_ ?_ _) | (with_reducible refine Below.setCell ?_ ?_ _) | (with_reducible refine Below.drew ?_) | go_size)⟩

theorem rless_any (x y : Int) (w : World) (hy : 0 ≤ y) (h : y ≤ x) (hx : x < 340282366920938463463374607431768211456) :
    Calls Tryz.prog 124 #[.agg #[.int .u64 (g0 x), .int .u64 (g1 x), .int .u64 (g2 x), .int .u64 (g3 x)], .agg #[.int .u64 (g0 y), .int .u64 (g1 y), .int .u64 (g2 y), .int .u64 (g3 y)]] w fun e w' => e = .returned (.agg #[.int .u64 (g0 (x - y)), .int .u64 (g1 (x - y)), .int .u64 (g2 (x - y)), .int .u64 (g3 (x - y))]) ∧ Below w.heap.size w w' := by
  have a0 := g0_bd x; have a1 := g1_bd x; have a2 := g2_bd x; have a3 := g3_bd x
  have b0 := g0_bd y; have b1 := g1_bd y; have b2 := g2_bd y; have b3 := g3_bd y
  have ex := g_sum x (by omega) hx; have ey := g_sum y hy (by omega)
  refine (rless_raw _ _ _ _ _ _ _ _ w a0.1 a1.1 a2.1 a3.1 b0.1 b1.1 b2.1 b3.1 a0.2 a1.2 a2.2 a3.2 b0.2 b1.2 b2.2 b3.2).mono ?_
  rintro e w' ⟨rfl, hb⟩
  have e : x - y = ((g0 x + 4294967296 - g0 y) % 4294967296) + ((g1 x + 4294967296 - g1 y - (1 - (g0 x + 4294967296 - g0 y) / 4294967296)) % 4294967296) * 4294967296 + ((g2 x + 4294967296 - g2 y - (1 - (g1 x + 4294967296 - g1 y - (1 - (g0 x + 4294967296 - g0 y) / 4294967296)) / 4294967296)) % 4294967296) * 18446744073709551616 + ((g3 x + 4294967296 - g3 y - (1 - (g2 x + 4294967296 - g2 y - (1 - (g1 x + 4294967296 - g1 y - (1 - (g0 x + 4294967296 - g0 y) / 4294967296)) / 4294967296)) / 4294967296)) % 4294967296) * 79228162514264337593543950336 := by
    generalize g0 x = X0 at *; generalize g1 x = X1 at *; generalize g2 x = X2 at *; generalize g3 x = X3 at *
    generalize g0 y = Y0 at *; generalize g1 y = Y1 at *; generalize g2 y = Y2 at *; generalize g3 y = Y3 at *
    clear hb
    omega
  obtain ⟨k0, k1, k2, k3⟩ := g_of ((g0 x + 4294967296 - g0 y) % 4294967296) ((g1 x + 4294967296 - g1 y - (1 - (g0 x + 4294967296 - g0 y) / 4294967296)) % 4294967296) ((g2 x + 4294967296 - g2 y - (1 - (g1 x + 4294967296 - g1 y - (1 - (g0 x + 4294967296 - g0 y) / 4294967296)) / 4294967296)) % 4294967296) ((g3 x + 4294967296 - g3 y - (1 - (g2 x + 4294967296 - g2 y - (1 - (g1 x + 4294967296 - g1 y - (1 - (g0 x + 4294967296 - g0 y) / 4294967296)) / 4294967296)) / 4294967296)) % 4294967296) (by omega) (by omega) (by omega) (by omega)
  rw [← e] at k0 k1 k2 k3
  exact ⟨ret_big k0.symm k1.symm k2.symm k3.symm, hb⟩

/-- -1, 0, 1. -/
def cmpI (x y : Int) : Int := if x < y then -1 else if y < x then 1 else 0

set_option maxRecDepth 100000 in
set_option maxHeartbeats 2000000 in
theorem rcompare_raw (a0 a1 a2 a3 b0 b1 b2 b3 : Int) (w : World) (p0 : 0 ≤ a0) (p1 : 0 ≤ a1) (p2 : 0 ≤ a2) (_p3 : 0 ≤ a3) (q0 : 0 ≤ b0) (q1 : 0 ≤ b1) (q2 : 0 ≤ b2) (_q3 : 0 ≤ b3)
    (r0 : a0 ≤ 4294967295) (r1 : a1 ≤ 4294967295) (r2 : a2 ≤ 4294967295) (_r3 : a3 ≤ 4294967295) (s0 : b0 ≤ 4294967295) (s1 : b1 ≤ 4294967295) (s2 : b2 ≤ 4294967295) (_s3 : b3 ≤ 4294967295) :
    Calls Tryz.prog 103 #[.agg #[.int .u64 a0, .int .u64 a1, .int .u64 a2, .int .u64 a3], .agg #[.int .u64 b0, .int .u64 b1, .int .u64 b2, .int .u64 b3]] w fun e w' => e = .returned (.int .i64 (cmpI (a0 + a1 * 4294967296 + a2 * 18446744073709551616 + a3 * 79228162514264337593543950336) (b0 + b1 * 4294967296 + b2 * 18446744073709551616 + b3 * 79228162514264337593543950336))) ∧ Below w.heap.size w w' := by
  go_enter Tryz.func103, Tryz.ntmps103
  go_wp2
  refine wp_loop_rounds 5 ?_
  rw [rounds_succ]
  go_wp2
  go_quiet (fail)
  by_cases u3 : a3 < b3
  · go_wp2
    go_ret
    exact ⟨ret_int (by unfold cmpI; rw [if_pos (by omega)]), by repeat' (first | (with_reducible exact Below.refl _ _) | (with_reducible assumption) | (with_reducible refine bdrewN _ ?_) | (with_reducible refine Below.alloc ?_ ?_ _) | (with_reducible refine Below.setCell ?_ ?_ _) | (with_reducible refine Below.drew ?_) | go_size)⟩
  go_wp2
  go_quiet (fail)
  by_cases v3 : b3 < a3
  · go_wp2
    go_ret
    exact ⟨ret_int (by unfold cmpI; rw [if_neg (by omega), if_pos (by omega)]), by repeat' (first | (with_reducible exact Below.refl _ _) | (with_reducible assumption) | (with_reducible refine bdrewN _ ?_) | (with_reducible refine Below.alloc ?_ ?_ _) | (with_reducible refine Below.setCell ?_ ?_ _) | (with_reducible refine Below.drew ?_) | go_size)⟩
  go_wp2
  rw [rounds_succ]
  go_wp2
  go_quiet (fail)
  by_cases u2 : a2 < b2
  · go_wp2
    go_ret
    exact ⟨ret_int (by unfold cmpI; rw [if_pos (by omega)]), by repeat' (first | (with_reducible exact Below.refl _ _) | (with_reducible assumption) | (with_reducible refine bdrewN _ ?_) | (with_reducible refine Below.alloc ?_ ?_ _) | (with_reducible refine Below.setCell ?_ ?_ _) | (with_reducible refine Below.drew ?_) | go_size)⟩
  go_wp2
  go_quiet (fail)
  by_cases v2 : b2 < a2
  · go_wp2
    go_ret
    exact ⟨ret_int (by unfold cmpI; rw [if_neg (by omega), if_pos (by omega)]), by repeat' (first | (with_reducible exact Below.refl _ _) | (with_reducible assumption) | (with_reducible refine bdrewN _ ?_) | (with_reducible refine Below.alloc ?_ ?_ _) | (with_reducible refine Below.setCell ?_ ?_ _) | (with_reducible refine Below.drew ?_) | go_size)⟩
  go_wp2
  rw [rounds_succ]
  go_wp2
  go_quiet (fail)
  by_cases u1 : a1 < b1
  · go_wp2
    go_ret
    exact ⟨ret_int (by unfold cmpI; rw [if_pos (by omega)]), by repeat' (first | (with_reducible exact Below.refl _ _) | (with_reducible assumption) | (with_reducible refine bdrewN _ ?_) | (with_reducible refine Below.alloc ?_ ?_ _) | (with_reducible refine Below.setCell ?_ ?_ _) | (with_reducible refine Below.drew ?_) | go_size)⟩
  go_wp2
  go_quiet (fail)
  by_cases v1 : b1 < a1
  · go_wp2
    go_ret
    exact ⟨ret_int (by unfold cmpI; rw [if_neg (by omega), if_pos (by omega)]), by repeat' (first | (with_reducible exact Below.refl _ _) | (with_reducible assumption) | (with_reducible refine bdrewN _ ?_) | (with_reducible refine Below.alloc ?_ ?_ _) | (with_reducible refine Below.setCell ?_ ?_ _) | (with_reducible refine Below.drew ?_) | go_size)⟩
  go_wp2
  rw [rounds_succ]
  go_wp2
  go_quiet (fail)
  by_cases u0 : a0 < b0
  · go_wp2
    go_ret
    exact ⟨ret_int (by unfold cmpI; rw [if_pos (by omega)]), by repeat' (first | (with_reducible exact Below.refl _ _) | (with_reducible assumption) | (with_reducible refine bdrewN _ ?_) | (with_reducible refine Below.alloc ?_ ?_ _) | (with_reducible refine Below.setCell ?_ ?_ _) | (with_reducible refine Below.drew ?_) | go_size)⟩
  go_wp2
  go_quiet (fail)
  by_cases v0 : b0 < a0
  · go_wp2
    go_ret
    exact ⟨ret_int (by unfold cmpI; rw [if_neg (by omega), if_pos (by omega)]), by repeat' (first | (with_reducible exact Below.refl _ _) | (with_reducible assumption) | (with_reducible refine bdrewN _ ?_) | (with_reducible refine Below.alloc ?_ ?_ _) | (with_reducible refine Below.setCell ?_ ?_ _) | (with_reducible refine Below.drew ?_) | go_size)⟩
  go_wp2
  rw [rounds_succ]
  go_wp2
  go_ret
  exact ⟨ret_int (by unfold cmpI; rw [if_neg (by omega), if_neg (by omega)]), by repeat' (first | (with_reducible exact Below.refl _ _) | (with_reducible assumption) | (with_reducible refine bdrewN _ ?_) | (with_reducible refine Below.alloc ?_ ?_ _) | (with_reducible refine Below.setCell ?_ ?_ _) | (with_reducible refine Below.drew ?_) | go_size)⟩

theorem rcompare_any (x y : Int) (w : World) (hx : 0 ≤ x) (hx' : x < 340282366920938463463374607431768211456) (hy : 0 ≤ y) (hy' : y < 340282366920938463463374607431768211456) :
    Calls Tryz.prog 103 #[.agg #[.int .u64 (g0 x), .int .u64 (g1 x), .int .u64 (g2 x), .int .u64 (g3 x)], .agg #[.int .u64 (g0 y), .int .u64 (g1 y), .int .u64 (g2 y), .int .u64 (g3 y)]] w fun e w' => e = .returned (.int .i64 (cmpI x y)) ∧ Below w.heap.size w w' := by
  have a0 := g0_bd x; have a1 := g1_bd x; have a2 := g2_bd x; have a3 := g3_bd x
  have b0 := g0_bd y; have b1 := g1_bd y; have b2 := g2_bd y; have b3 := g3_bd y
  have h := rcompare_raw _ _ _ _ _ _ _ _ w a0.1 a1.1 a2.1 a3.1 b0.1 b1.1 b2.1 b3.1 a0.2 a1.2 a2.2 a3.2 b0.2 b1.2 b2.2 b3.2
  rwa [← g_sum x hx hx', ← g_sum y hy hy'] at h

end Go.Proofs.YtedoahibceeklabGreatDoor
