/- The document's division bit by bit. -/
import Derived.Test.YtedoahibceeklabGreatDoorDivd1
import Derived.Handy
namespace Go.Proofs.YtedoahibceeklabGreatDoor
open Go.RowKit

/-- A block of four digits, which may be written. -/
structure Blk (W : World) (B : Nat) (v0 v1 v2 v3 : Int) : Prop where
  c0 : W.cell? ⟨B, 0, none⟩ = some (.int .u64 v0)
  c1 : W.cell? ⟨B, 1, none⟩ = some (.int .u64 v1)
  c2 : W.cell? ⟨B, 2, none⟩ = some (.int .u64 v2)
  c3 : W.cell? ⟨B, 3, none⟩ = some (.int .u64 v3)
  f0 : W.frozen? ⟨B, 0, none⟩ = false
  f1 : W.frozen? ⟨B, 1, none⟩ = false
  f2 : W.frozen? ⟨B, 2, none⟩ = false
  f3 : W.frozen? ⟨B, 3, none⟩ = false

theorem Blk.below {W W' : World} {B n : Nat} {v0 v1 v2 v3 : Int} (h : Blk W B v0 v1 v2 v3) (hb : Below n W W') (hB : B < n) : Blk W' B v0 v1 v2 v3 :=
  ⟨(hb.cell (p := ⟨B, 0, none⟩) hB).trans h.c0, (hb.cell (p := ⟨B, 1, none⟩) hB).trans h.c1, (hb.cell (p := ⟨B, 2, none⟩) hB).trans h.c2, (hb.cell (p := ⟨B, 3, none⟩) hB).trans h.c3,
   (hb.frozen (p := ⟨B, 0, none⟩) hB).trans h.f0, (hb.frozen (p := ⟨B, 1, none⟩) hB).trans h.f1, (hb.frozen (p := ⟨B, 2, none⟩) hB).trans h.f2, (hb.frozen (p := ⟨B, 3, none⟩) hB).trans h.f3⟩

theorem Blk.set0 {W : World} {B : Nat} {v0 v1 v2 v3 : Int} (h : Blk W B v0 v1 v2 v3) (x : Int) : Blk (W.setCell ⟨B, 0, none⟩ (.int .u64 x)) B x v1 v2 v3 := by
  obtain ⟨c0, c1, c2, c3, f0, f1, f2, f3⟩ := h
  constructor <;> simp (maxDischargeDepth := 12) [go_sem, c0, c1, c2, c3, f0, f1, f2, f3]
theorem Blk.set1 {W : World} {B : Nat} {v0 v1 v2 v3 : Int} (h : Blk W B v0 v1 v2 v3) (x : Int) : Blk (W.setCell ⟨B, 1, none⟩ (.int .u64 x)) B v0 x v2 v3 := by
  obtain ⟨c0, c1, c2, c3, f0, f1, f2, f3⟩ := h
  constructor <;> simp (maxDischargeDepth := 12) [go_sem, c0, c1, c2, c3, f0, f1, f2, f3]
theorem Blk.set2 {W : World} {B : Nat} {v0 v1 v2 v3 : Int} (h : Blk W B v0 v1 v2 v3) (x : Int) : Blk (W.setCell ⟨B, 2, none⟩ (.int .u64 x)) B v0 v1 x v3 := by
  obtain ⟨c0, c1, c2, c3, f0, f1, f2, f3⟩ := h
  constructor <;> simp (maxDischargeDepth := 12) [go_sem, c0, c1, c2, c3, f0, f1, f2, f3]
theorem Blk.set3 {W : World} {B : Nat} {v0 v1 v2 v3 : Int} (h : Blk W B v0 v1 v2 v3) (x : Int) : Blk (W.setCell ⟨B, 3, none⟩ (.int .u64 x)) B v0 v1 v2 x := by
  obtain ⟨c0, c1, c2, c3, f0, f1, f2, f3⟩ := h
  constructor <;> simp (maxDischargeDepth := 12) [go_sem, c0, c1, c2, c3, f0, f1, f2, f3]
theorem Blk.other {W : World} {B C o : Nat} {v0 v1 v2 v3 : Int} {x : Value} (h : Blk W C v0 v1 v2 v3) (hne : C ≠ B) : Blk (W.setCell ⟨B, o, none⟩ x) C v0 v1 v2 v3 := by
  obtain ⟨c0, c1, c2, c3, f0, f1, f2, f3⟩ := h
  constructor <;> simp (maxDischargeDepth := 12) [go_sem, c0, c1, c2, c3, f0, f1, f2, f3]
theorem Blk.four {W : World} {B : Nat} {v0 v1 v2 v3 : Int} (h : Blk W B v0 v1 v2 v3) (x0 x1 x2 x3 : Int) : Blk ((((W.setCell ⟨B, 0, none⟩ (.int .u64 x0)).setCell ⟨B, 1, none⟩ (.int .u64 x1)).setCell ⟨B, 2, none⟩ (.int .u64 x2)).setCell ⟨B, 3, none⟩ (.int .u64 x3)) B x0 x1 x2 x3 :=
  (((h.set0 x0).set1 x1).set2 x2).set3 x3
theorem Blk.other4 {W : World} {B C : Nat} {v0 v1 v2 v3 : Int} {x0 x1 x2 x3 : Value} (h : Blk W C v0 v1 v2 v3) (hne : C ≠ B) : Blk ((((W.setCell ⟨B, 0, none⟩ x0).setCell ⟨B, 1, none⟩ x1).setCell ⟨B, 2, none⟩ x2).setCell ⟨B, 3, none⟩ x3) C v0 v1 v2 v3 :=
  (((h.other hne).other hne).other hne).other hne
theorem Blk.drew {W : World} {B : Nat} {v0 v1 v2 v3 : Int} (h : Blk W B v0 v1 v2 v3) : Blk W.drew B v0 v1 v2 v3 :=
  ⟨h.c0, h.c1, h.c2, h.c3, h.f0, h.f1, h.f2, h.f3⟩
theorem Blk.drewN {W : World} {B : Nat} {v0 v1 v2 v3 : Int} (h : Blk W B v0 v1 v2 v3) (n : Nat) : Blk (W.drewN n) B v0 v1 v2 v3 :=
  ⟨h.c0, h.c1, h.c2, h.c3, h.f0, h.f1, h.f2, h.f3⟩

theorem bcl2 {n : Nat} {W0 wx : World} (h : Below n W0 wx) {a : Addr} {v : Value} (hv : W0.cell? a = some v) (ha : a.block < n) : wx.cell? a = some v := (h.cell ha).trans hv
theorem bfr2 {n : Nat} {W0 wx : World} (h : Below n W0 wx) {a : Addr} (hv : W0.frozen? a = false) (ha : a.block < n) : wx.frozen? a = false := (h.frozen ha).trans hv

theorem inv_start (a b : Int) (ha : 0 ≤ a) (ha' : a < 340282366920938463463374607431768211456) : Inv a b 128 0 0 0 0 0 := by
  have e : a / 2 ^ 128 = 0 := Int.ediv_eq_zero_of_lt ha ha'
  refine ⟨by rw [e]; simp, by rw [e]; simp, by simp, by simp, by simp, by simp⟩

theorem dig_bit (R bit : Int) (hb0 : 0 ≤ bit) (hb1 : bit ≤ 1) : g0 (R + R) + bit = g0 (2 * R + bit) ∧ g1 (R + R) = g1 (2 * R + bit) ∧ g2 (R + R) = g2 (2 * R + bit) ∧ g3 (R + R) = g3 (2 * R + bit) := by
  unfold g0 g1 g2 g3; omega

theorem ret_two {a0 a1 a2 a3 b0 b1 b2 b3 a0' a1' a2' a3' b0' b1' b2' b3' : Int} (h0 : a0 = a0') (h1 : a1 = a1') (h2 : a2 = a2') (h3 : a3 = a3') (k0 : b0 = b0') (k1 : b1 = b1') (k2 : b2 = b2') (k3 : b3 = b3') : Ending.returned (.tuple #[.agg #[.int .u64 a0, .int .u64 a1, .int .u64 a2, .int .u64 a3], .agg #[.int .u64 b0, .int .u64 b1, .int .u64 b2, .int .u64 b3]]) = Ending.returned (.tuple #[.agg #[.int .u64 a0', .int .u64 a1', .int .u64 a2', .int .u64 a3'], .agg #[.int .u64 b0', .int .u64 b1', .int .u64 b2', .int .u64 b3']]) := by rw [h0, h1, h2, h3, k0, k1, k2, k3]

set_option maxRecDepth 100000 in
set_option maxHeartbeats 8000000 in
theorem rdiv_any (a b : Int) (w : World) (ha : 0 ≤ a) (ha' : a < 340282366920938463463374607431768211456) (hb : 0 < b) (hb' : b ≤ 170141183460469231731687303715884105728) :
    Calls Tryz.prog 102 #[.agg #[.int .u64 (g0 a), .int .u64 (g1 a), .int .u64 (g2 a), .int .u64 (g3 a)], .agg #[.int .u64 (g0 b), .int .u64 (g1 b), .int .u64 (g2 b), .int .u64 (g3 b)]] w fun e w' => e = .returned (.tuple #[.agg #[.int .u64 (g0 (a / b)), .int .u64 (g1 (a / b)), .int .u64 (g2 (a / b)), .int .u64 (g3 (a / b))], .agg #[.int .u64 (g0 (a % b)), .int .u64 (g1 (a % b)), .int .u64 (g2 (a % b)), .int .u64 (g3 (a % b))]]) ∧ Below w.heap.size w w' := by
  have z0 := g0_bd a
  have z1 := g1_bd a
  have z2 := g2_bd a
  have z3 := g3_bd a
  have y0 := g0_bd b
  have y1 := g1_bd b
  have y2 := g2_bd b
  have y3 := g3_bd b
  go_enter Tryz.func102, Tryz.ntmps102
  go_wp2
  go_loopw [8] (fun i wr => ∃ (k : Nat) (t0 t1 t2 t3 R : Int), k ≤ 128 ∧ 0 ≤ t0 ∧ t0 < 4294967296 ∧ 0 ≤ t1 ∧ t1 < 4294967296 ∧ 0 ≤ t2 ∧ t2 < 4294967296 ∧ 0 ≤ t3 ∧ t3 < 4294967296 ∧ Hid (Inv a b k t0 t1 t2 t3 R) ∧ (∃ i0 : Int, i0 = (k : Int) - 1 ∧ i = .int .i64 i0) ∧ Below w.heap.size w wr ∧ w.heap.size + 1 + 1 + 1 + 1 + 1 < wr.heap.size ∧ Blk wr (w.heap.size) (g0 (a)) (g1 (a)) (g2 (a)) (g3 (a)) ∧ Blk wr (w.heap.size + 1) (g0 (b)) (g1 (b)) (g2 (b)) (g3 (b)) ∧ Blk wr (w.heap.size + 1 + 1 + 1 + 1) (t0) (t1) (t2) (t3) ∧ Blk wr (w.heap.size + 1 + 1 + 1 + 1 + 1) (g0 (R)) (g1 (R)) (g2 (R)) (g3 (R)) ∧ Blk wr (w.heap.size + 1 + 1) (0) (0) (0) (0) ∧ Blk wr (w.heap.size + 1 + 1 + 1) (0) (0) (0) (0)) (fun i _ => (intOf i + 1).toNat)
  case atStart =>
    refine ⟨128, 0, 0, 0, 0, 0, by omega, by omega, by omega, by omega, by omega, by omega, by omega, by omega, by omega, inv_start a b ha ha', ⟨127, by decide, rfl⟩, by go_grown, by go_size, ?_, ?_, ?_, ?_, ?_, ?_⟩
    all_goals (constructor <;> simp (maxDischargeDepth := 12) [go_sem, show g0 0 = 0 by decide, show g1 0 = 0 by decide, show g2 0 = 0 by decide, show g3 0 = 0 by decide])
  case round =>
    obtain ⟨k, t0, t1, t2, t3, R, hk, p0, q0, p1, q1, p2, q2, p3, q3, hI, ⟨i0, hi0, rfl⟩, hBw, hsz, kA, kB, kT, kR, kX, kY⟩ := hrel
    by_cases hk0 : k = 0
    · subst hk0
      have hi1 : i0 < 0 := by omega
      have hi2 : (0 ≤ i0) = False := by simp; omega
      clear hi0
      obtain ⟨t0', t1', t2', t3'⟩ : Hid (g0 (a / b) = t0) ∧ Hid (g1 (a / b) = t1) ∧ Hid (g2 (a / b) = t2) ∧ Hid (g3 (a / b) = t3) := by
        have e := hI.out.times
        simp at e
        have := g_of t0 t1 t2 t3 ⟨p0, by omega⟩ ⟨p1, by omega⟩ ⟨p2, by omega⟩ ⟨p3, by omega⟩
        rw [e] at this; exact this
      have eR : Hid (R = a % b) := by have e := hI.out.rest; simp at e; exact e
      have kXX := kX
      obtain ⟨kX0, kX1, kX2, kX3, kX4, kX5, kX6, kX7⟩ := kX
      have kYY := kY
      obtain ⟨kY0, kY1, kY2, kY3, kY4, kY5, kY6, kY7⟩ := kY
      obtain ⟨kT0, kT1, kT2, kT3, -, -, -, -⟩ := kT
      obtain ⟨kR0, kR1, kR2, kR3, -, -, -, -⟩ := kR
      clear hI
      go_wp2
      go_region
      generalize hW : World.drew _ = W9
      have kX' : Blk W9 (w.heap.size + 1 + 1) t0 t1 t2 t3 := by rw [← hW]; exact ((kXX.four t0 t1 t2 t3).other4 (by omega)).drew
      have kY' : Blk W9 (w.heap.size + 1 + 1 + 1) (g0 R) (g1 R) (g2 R) (g3 R) := by rw [← hW]; exact ((kYY.other4 (by omega)).four _ _ _ _).drew
      have hB9 : Below w.heap.size w W9 := by rw [← hW]; repeat' (first | (with_reducible exact Below.refl _ _) | (with_reducible assumption) | (with_reducible refine bdrewN _ ?_) | (with_reducible refine Below.alloc ?_ ?_ _) | (with_reducible refine Below.setCell ?_ ?_ _) | (with_reducible refine Below.drew ?_) | go_size | (simp; omega))
      clear hW
      obtain ⟨x0, x1, x2, x3, -, -, -, -⟩ := kX'
      obtain ⟨x4, x5, x6, x7, -, -, -, -⟩ := kY'
      go_wp2
      refine bodyPost_ret (by simp [results, Tryz.results102, go_sem, x0, x1, x2, x3, x4, x5, x6, x7]; try rfl) rfl ?_
      exact ⟨ret_two t0'.out.symm t1'.out.symm t2'.out.symm t3'.out.symm (by rw [eR.out]) (by rw [eR.out]) (by rw [eR.out]) (by rw [eR.out]), hB9⟩
    · have hR : R = a / 2 ^ k % b := hI.out.rest
      have hR0 : 0 ≤ R := by rw [hR]; exact Int.emod_nonneg _ (by omega)
      have hR1 : R < b := by rw [hR]; exact Int.emod_lt_of_pos _ hb
      clear hR
      have hi1 : 0 ≤ i0 := by omega
      have hi3 : i0 ≤ 127 := by omega
      obtain ⟨s, hs, hks⟩ : ∃ s : Nat, s < 32 ∧ (k = 0 + s + 1 ∨ k = 32 + s + 1 ∨ k = 64 + s + 1 ∨ k = 96 + s + 1) := ⟨(k - 1) % 32, by omega, by omega⟩
      have hs' : (s : Int) < 32 := by omega
      have hp1 := pow_pos_i s
      have hp2 : (2 : Int) ^ s ≤ 2147483648 := by
        have : (2 : Int) ^ s * 2 ^ (31 - s) = 2147483648 := by rw [← Int.pow_add, show s + (31 - s) = 31 by omega]; rfl
        have h2 : (1 : Int) ≤ 2 ^ (31 - s) := pow_pos_i _
        have h3 : (2 : Int) ^ s * 1 ≤ 2 ^ s * 2 ^ (31 - s) := Int.mul_le_mul_of_nonneg_left h2 (by omega)
        omega
      rcases hks with rfl | rfl | rfl | rfl
      · obtain ⟨st1, st2⟩ := inv_step0 a b t0 t1 t2 t3 R s hs hb p0 q0 hI.out
        obtain ⟨bit, eB⟩ : ∃ bit : Int, g0 a / 2 ^ s % 2 = bit := ⟨_, rfl⟩
        have hb0 : 0 ≤ bit := by omega
        have hb1 : bit ≤ 1 := by omega
        obtain ⟨X, hX⟩ : ∃ X : Int, 2 * R + bit = X := ⟨_, rfl⟩
        have hX0 : 0 ≤ X := by omega
        have hX1 : X < 340282366920938463463374607431768211456 := by omega
        rw [eB, hX] at st1 st2
        have e1 : i0 / 32 = 0 := by omega
        have e3 : i0 % 32 = (s : Int) := by omega
        have e2 : IntKind.i64.wrap (i0.tdiv 32) = 0 := by rw [Int.tdiv_eq_ediv_of_nonneg hi1, e1]; rfl
        have e4 : IntKind.i64.wrap (i0.tmod 32) = (s : Int) := by rw [Int.tmod_eq_emod_of_nonneg hi1, e3]; go_arith
        obtain ⟨d0, d1, d2, d3⟩ := dig_bit R bit hb0 hb1
        rw [hX] at d0 d1 d2 d3
        have HB : Hid (i0 = (0 + s + 1 : Nat) - 1) := hi0
        clear hi0
        have K : Hid (Blk wr (w.heap.size) (g0 (a)) (g1 (a)) (g2 (a)) (g3 (a)) ∧ Blk wr (w.heap.size + 1) (g0 (b)) (g1 (b)) (g2 (b)) (g3 (b)) ∧ Blk wr (w.heap.size + 1 + 1 + 1 + 1) t0 t1 t2 t3 ∧ Blk wr (w.heap.size + 1 + 1) 0 0 0 0 ∧ Blk wr (w.heap.size + 1 + 1 + 1) 0 0 0 0) := ⟨kA, kB, kT, kX, kY⟩
        clear kA kB kT kX kY
        obtain ⟨kR0, kR1, kR2, kR3, kR4, kR5, kR6, kR7⟩ := kR
        go_wp2_with fail
        refine (rplus_any R R _ hR0 hR0 (by omega)).mono ?_
        rintro e w1 ⟨rfl, hb1⟩
        obtain ⟨n0, n1, n2, n3⟩ := (⟨bcl2 hb1 kR0 (by simp; omega), bcl2 hb1 kR1 (by simp; omega), bcl2 hb1 kR2 (by simp; omega), bcl2 hb1 kR3 (by simp; omega)⟩ : w1.cell? ⟨w.heap.size + 1 + 1 + 1 + 1 + 1, 0, none⟩ = some (.int .u64 (g0 R)) ∧ w1.cell? ⟨w.heap.size + 1 + 1 + 1 + 1 + 1, 1, none⟩ = some (.int .u64 (g1 R)) ∧ w1.cell? ⟨w.heap.size + 1 + 1 + 1 + 1 + 1, 2, none⟩ = some (.int .u64 (g2 R)) ∧ w1.cell? ⟨w.heap.size + 1 + 1 + 1 + 1 + 1, 3, none⟩ = some (.int .u64 (g3 R)))
        obtain ⟨f0, f1, f2, f3⟩ := (⟨bfr2 hb1 kR4 (by simp; omega), bfr2 hb1 kR5 (by simp; omega), bfr2 hb1 kR6 (by simp; omega), bfr2 hb1 kR7 (by simp; omega)⟩ : w1.frozen? ⟨w.heap.size + 1 + 1 + 1 + 1 + 1, 0, none⟩ = false ∧ w1.frozen? ⟨w.heap.size + 1 + 1 + 1 + 1 + 1, 1, none⟩ = false ∧ w1.frozen? ⟨w.heap.size + 1 + 1 + 1 + 1 + 1, 2, none⟩ = false ∧ w1.frozen? ⟨w.heap.size + 1 + 1 + 1 + 1 + 1, 3, none⟩ = false)
        go_wp2_with fail
        refine wp_world ?_
        intro W1 hW1
        have K1 : Blk W1 (w.heap.size) (g0 (a)) (g1 (a)) (g2 (a)) (g3 (a)) ∧ Blk W1 (w.heap.size + 1) (g0 (b)) (g1 (b)) (g2 (b)) (g3 (b)) ∧ Blk W1 (w.heap.size + 1 + 1 + 1 + 1) t0 t1 t2 t3 ∧ Blk W1 (w.heap.size + 1 + 1) 0 0 0 0 ∧ Blk W1 (w.heap.size + 1 + 1 + 1) 0 0 0 0 := by
          obtain ⟨u1, u2, u3, u4, u5⟩ := K.out
          rw [hW1]
          exact ⟨(u1.below hb1 (by omega)).other4 (by omega), (u2.below hb1 (by omega)).other4 (by omega), (u3.below hb1 (by omega)).other4 (by omega), (u4.below hb1 (by omega)).other4 (by omega), (u5.below hb1 (by omega)).other4 (by omega)⟩
        have K1R : Blk W1 (w.heap.size + 1 + 1 + 1 + 1 + 1) (g0 (R + R)) (g1 X) (g2 X) (g3 X) := by
          rw [hW1]; exact Blk.four ⟨n0, n1, n2, n3, f0, f1, f2, f3⟩ _ _ _ _
        have hB1 : Below w.heap.size w W1 := by
          have := hBw.trans (hb1.mono hBw.size)
          rw [hW1]; repeat' (first | (with_reducible exact Below.refl _ _) | (with_reducible assumption) | (with_reducible refine bdrewN _ ?_) | (with_reducible refine Below.alloc ?_ ?_ _) | (with_reducible refine Below.setCell ?_ ?_ _) | (with_reducible refine Below.drew ?_) | go_size | (simp; omega))
        have hs1 : w.heap.size + 1 + 1 + 1 + 1 + 1 < W1.heap.size := by
          have := hb1.size
          rw [hW1]; simp; omega
        clear hW1 n0 n1 n2 n3 f0 f1 f2 f3 kR0 kR1 kR2 kR3 kR4 kR5 kR6 kR7 hb1 K hBw hsz
        have KK : Hid (Blk W1 (w.heap.size) (g0 (a)) (g1 (a)) (g2 (a)) (g3 (a)) ∧ Blk W1 (w.heap.size + 1) (g0 (b)) (g1 (b)) (g2 (b)) (g3 (b)) ∧ Blk W1 (w.heap.size + 1 + 1 + 1 + 1) t0 t1 t2 t3 ∧ Blk W1 (w.heap.size + 1 + 1) 0 0 0 0 ∧ Blk W1 (w.heap.size + 1 + 1 + 1) 0 0 0 0) := K1
        have KR : Hid (Blk W1 (w.heap.size + 1 + 1 + 1 + 1 + 1) (g0 (R + R)) (g1 X) (g2 X) (g3 X)) := K1R
        obtain ⟨⟨v0, v1, v2, v3, -, -, -, -⟩, -⟩ := K1
        obtain ⟨r0, -, -, -, r4, -, -, -⟩ := K1R
        go_region
        generalize hW : World.setCell _ _ _ = W2
        have ev : IntKind.u64.wrap (g0 (R + R) + (g0 a / 2 ^ s).tmod 2) = g0 X := by
          have e := g0_bd a
          have : 0 ≤ g0 a / 2 ^ s := Int.ediv_nonneg e.1 (by omega)
          rw [Int.tmod_eq_emod_of_nonneg this, eB, d0]
          have := g0_bd X
          rw [IntKind.wrap_u64]; omega
        have K2R : Blk W2 (w.heap.size + 1 + 1 + 1 + 1 + 1) (g0 X) (g1 X) (g2 X) (g3 X) := by
          rw [← hW, ev]; exact KR.out.set0 _
        have K2 : Hid (Blk W2 (w.heap.size) (g0 (a)) (g1 (a)) (g2 (a)) (g3 (a)) ∧ Blk W2 (w.heap.size + 1) (g0 (b)) (g1 (b)) (g2 (b)) (g3 (b)) ∧ Blk W2 (w.heap.size + 1 + 1 + 1 + 1) t0 t1 t2 t3 ∧ Blk W2 (w.heap.size + 1 + 1) 0 0 0 0 ∧ Blk W2 (w.heap.size + 1 + 1 + 1) 0 0 0 0) := by
          obtain ⟨u1, u2, u3, u4, u5⟩ := KK.out
          rw [← hW]
          exact ⟨u1.other (by omega), u2.other (by omega), u3.other (by omega), u4.other (by omega), u5.other (by omega)⟩
        have hB2 : Below w.heap.size w W2 := by rw [← hW]; repeat' (first | (with_reducible exact Below.refl _ _) | (with_reducible assumption) | (with_reducible refine bdrewN _ ?_) | (with_reducible refine Below.alloc ?_ ?_ _) | (with_reducible refine Below.setCell ?_ ?_ _) | (with_reducible refine Below.drew ?_) | go_size | (simp; omega))
        have hs2 : w.heap.size + 1 + 1 + 1 + 1 + 1 < W2.heap.size := by rw [← hW]; simp; omega
        clear hW ev KK KR hB1 hs1 v0 v1 v2 v3 r0 r4 d0 d1 d2 d3
        have KR : Hid (Blk W2 (w.heap.size + 1 + 1 + 1 + 1 + 1) (g0 X) (g1 X) (g2 X) (g3 X)) := K2R
        obtain ⟨r0, r1, r2, r3, r4, r5, r6, r7⟩ := K2R
        obtain ⟨l0, l1, l2, l3, -, -, -, -⟩ := K2.out.2.1
        obtain ⟨c, ec⟩ : ∃ c : Int, Hid (cmpI X b = c) := ⟨_, rfl⟩
        by_cases hc : b ≤ X
        · have hc0 : 0 ≤ c := by rw [← ec.out]; unfold cmpI; split <;> (try split) <;> omega
          obtain ⟨y1, y2⟩ := st1 hc
          clear st1 st2
          go_wp2_with fail
          refine (rcompare_any X b _ hX0 hX1 (by omega) (by omega)).mono ?_
          rintro e w3 ⟨rfl, hb3⟩
          rw [ec.out]
          have hH : W2.drew.heap.size = W2.heap.size := rfl
          rw [hH] at hb3
          have hb4 : Below W2.heap.size W2 w3 := ⟨hb3.os, hb3.tape, hb3.output, hb3.size, hb3.block⟩
          have hB3 := hB2.trans (hb4.mono hB2.size)
          have hs3 := hb4.size
          have hs4 : w.heap.size + 1 + 1 + 1 + 1 + 1 < w3.heap.size := by omega
          have K3 : Hid (Blk w3 (w.heap.size) (g0 (a)) (g1 (a)) (g2 (a)) (g3 (a)) ∧ Blk w3 (w.heap.size + 1) (g0 (b)) (g1 (b)) (g2 (b)) (g3 (b)) ∧ Blk w3 (w.heap.size + 1 + 1 + 1 + 1) t0 t1 t2 t3 ∧ Blk w3 (w.heap.size + 1 + 1) 0 0 0 0 ∧ Blk w3 (w.heap.size + 1 + 1 + 1) 0 0 0 0) := by
            obtain ⟨u1, u2, u3, u4, u5⟩ := K2.out
            exact ⟨u1.below hb4 (by omega), u2.below hb4 (by omega), u3.below hb4 (by omega), u4.below hb4 (by omega), u5.below hb4 (by omega)⟩
          have K3R : Hid (Blk w3 (w.heap.size + 1 + 1 + 1 + 1 + 1) (g0 X) (g1 X) (g2 X) (g3 X)) := KR.out.below hb4 (by omega)
          clear hb3 hb4 hs3 hs2 hB2 K2 KR r0 r1 r2 r3 r4 r5 r6 r7 l0 l1 l2 l3 hH
          obtain ⟨r0, r1, r2, r3, -, -, -, -⟩ := K3R.out
          obtain ⟨l0, l1, l2, l3, -, -, -, -⟩ := K3.out.2.1
          go_wp2_with fail
          refine (rless_any X b _ (by omega) hc hX1).mono ?_
          rintro e w4 ⟨rfl, hb5⟩
          have hB4 := hB3.trans (hb5.mono hB3.size)
          have hs5 := hb5.size
          have K4 : Hid (Blk w4 (w.heap.size) (g0 (a)) (g1 (a)) (g2 (a)) (g3 (a)) ∧ Blk w4 (w.heap.size + 1) (g0 (b)) (g1 (b)) (g2 (b)) (g3 (b)) ∧ Blk w4 (w.heap.size + 1 + 1 + 1 + 1) t0 t1 t2 t3 ∧ Blk w4 (w.heap.size + 1 + 1) 0 0 0 0 ∧ Blk w4 (w.heap.size + 1 + 1 + 1) 0 0 0 0) := by
            obtain ⟨u1, u2, u3, u4, u5⟩ := K3.out
            exact ⟨u1.below hb5 (by omega), u2.below hb5 (by omega), u3.below hb5 (by omega), u4.below hb5 (by omega), u5.below hb5 (by omega)⟩
          have K4R : Hid (Blk w4 (w.heap.size + 1 + 1 + 1 + 1 + 1) (g0 X) (g1 X) (g2 X) (g3 X)) := K3R.out.below hb5 (by omega)
          have hs6 : w.heap.size + 1 + 1 + 1 + 1 + 1 < w4.heap.size := by omega
          clear hb5 hs5 hs4 hB3 K3 K3R r0 r1 r2 r3 l0 l1 l2 l3
          obtain ⟨r0, r1, r2, r3, r4, r5, r6, r7⟩ := K4R.out
          obtain ⟨l0, l1, l2, l3, l4, l5, l6, l7⟩ := K4.out.2.2.1
          obtain ⟨u1, u2, u3, u4, u5⟩ := K4.out
          have u6 := K4R.out
          go_wp2
          exact ⟨⟨0 + s, (t0 + 2 ^ s), t1, t2, t3, X - b, by omega, (by omega), y1, p1, q1, p2, q2, p3, q3, y2, ⟨i0 - 1, by have := HB.out; omega, rfl⟩, (by repeat' (first | (with_reducible exact Below.refl _ _) | (with_reducible assumption) | (with_reducible refine bdrewN _ ?_) | (with_reducible refine Below.alloc ?_ ?_ _) | (with_reducible refine Below.setCell ?_ ?_ _) | (with_reducible refine Below.drew ?_) | go_size | (simp; omega))), by simp; omega, (u1.other4 (by omega)).other (by omega), (u2.other4 (by omega)).other (by omega), (u3.other4 (by omega)).set0 _, (u6.four _ _ _ _).other (by omega), (u4.other4 (by omega)).other (by omega), (u5.other4 (by omega)).other (by omega)⟩, by simp [intOf]; omega⟩
        · have hc0 : (0 ≤ c) = False := by simp; rw [← ec.out]; unfold cmpI; split <;> (try split) <;> omega
          have hc1 : c < 0 := by simpa using hc0
          have y2 := st2 (by omega)
          clear st1 st2
          go_wp2_with fail
          refine (rcompare_any X b _ hX0 hX1 (by omega) (by omega)).mono ?_
          rintro e w3 ⟨rfl, hb3⟩
          rw [ec.out]
          obtain ⟨u1, u2, u3, u4, u5⟩ := K2.out
          have u6 := KR.out
          have hH : W2.drew.heap.size = W2.heap.size := rfl
          rw [hH] at hb3
          have hb4 : Below W2.heap.size W2 w3 := ⟨hb3.os, hb3.tape, hb3.output, hb3.size, hb3.block⟩
          have hB3 := hB2.trans (hb4.mono hB2.size)
          have hs3 := hb4.size
          go_wp2
          exact ⟨⟨0 + s, t0, t1, t2, t3, X, by omega, p0, q0, p1, q1, p2, q2, p3, q3, y2, ⟨i0 - 1, by have := HB.out; omega, rfl⟩, hB3, by omega, u1.below hb4 (by omega), u2.below hb4 (by omega), u3.below hb4 (by omega), u6.below hb4 (by omega), u4.below hb4 (by omega), u5.below hb4 (by omega)⟩, by simp [intOf]; omega⟩
      · obtain ⟨st1, st2⟩ := inv_step1 a b t0 t1 t2 t3 R s hs hb p1 q1 hI.out
        obtain ⟨bit, eB⟩ : ∃ bit : Int, g1 a / 2 ^ s % 2 = bit := ⟨_, rfl⟩
        have hb0 : 0 ≤ bit := by omega
        have hb1 : bit ≤ 1 := by omega
        obtain ⟨X, hX⟩ : ∃ X : Int, 2 * R + bit = X := ⟨_, rfl⟩
        have hX0 : 0 ≤ X := by omega
        have hX1 : X < 340282366920938463463374607431768211456 := by omega
        rw [eB, hX] at st1 st2
        have e1 : i0 / 32 = 1 := by omega
        have e3 : i0 % 32 = (s : Int) := by omega
        have e2 : IntKind.i64.wrap (i0.tdiv 32) = 1 := by rw [Int.tdiv_eq_ediv_of_nonneg hi1, e1]; rfl
        have e4 : IntKind.i64.wrap (i0.tmod 32) = (s : Int) := by rw [Int.tmod_eq_emod_of_nonneg hi1, e3]; go_arith
        obtain ⟨d0, d1, d2, d3⟩ := dig_bit R bit hb0 hb1
        rw [hX] at d0 d1 d2 d3
        have HB : Hid (i0 = (32 + s + 1 : Nat) - 1) := hi0
        clear hi0
        have K : Hid (Blk wr (w.heap.size) (g0 (a)) (g1 (a)) (g2 (a)) (g3 (a)) ∧ Blk wr (w.heap.size + 1) (g0 (b)) (g1 (b)) (g2 (b)) (g3 (b)) ∧ Blk wr (w.heap.size + 1 + 1 + 1 + 1) t0 t1 t2 t3 ∧ Blk wr (w.heap.size + 1 + 1) 0 0 0 0 ∧ Blk wr (w.heap.size + 1 + 1 + 1) 0 0 0 0) := ⟨kA, kB, kT, kX, kY⟩
        clear kA kB kT kX kY
        obtain ⟨kR0, kR1, kR2, kR3, kR4, kR5, kR6, kR7⟩ := kR
        go_wp2_with fail
        refine (rplus_any R R _ hR0 hR0 (by omega)).mono ?_
        rintro e w1 ⟨rfl, hb1⟩
        obtain ⟨n0, n1, n2, n3⟩ := (⟨bcl2 hb1 kR0 (by simp; omega), bcl2 hb1 kR1 (by simp; omega), bcl2 hb1 kR2 (by simp; omega), bcl2 hb1 kR3 (by simp; omega)⟩ : w1.cell? ⟨w.heap.size + 1 + 1 + 1 + 1 + 1, 0, none⟩ = some (.int .u64 (g0 R)) ∧ w1.cell? ⟨w.heap.size + 1 + 1 + 1 + 1 + 1, 1, none⟩ = some (.int .u64 (g1 R)) ∧ w1.cell? ⟨w.heap.size + 1 + 1 + 1 + 1 + 1, 2, none⟩ = some (.int .u64 (g2 R)) ∧ w1.cell? ⟨w.heap.size + 1 + 1 + 1 + 1 + 1, 3, none⟩ = some (.int .u64 (g3 R)))
        obtain ⟨f0, f1, f2, f3⟩ := (⟨bfr2 hb1 kR4 (by simp; omega), bfr2 hb1 kR5 (by simp; omega), bfr2 hb1 kR6 (by simp; omega), bfr2 hb1 kR7 (by simp; omega)⟩ : w1.frozen? ⟨w.heap.size + 1 + 1 + 1 + 1 + 1, 0, none⟩ = false ∧ w1.frozen? ⟨w.heap.size + 1 + 1 + 1 + 1 + 1, 1, none⟩ = false ∧ w1.frozen? ⟨w.heap.size + 1 + 1 + 1 + 1 + 1, 2, none⟩ = false ∧ w1.frozen? ⟨w.heap.size + 1 + 1 + 1 + 1 + 1, 3, none⟩ = false)
        go_wp2_with fail
        refine wp_world ?_
        intro W1 hW1
        have K1 : Blk W1 (w.heap.size) (g0 (a)) (g1 (a)) (g2 (a)) (g3 (a)) ∧ Blk W1 (w.heap.size + 1) (g0 (b)) (g1 (b)) (g2 (b)) (g3 (b)) ∧ Blk W1 (w.heap.size + 1 + 1 + 1 + 1) t0 t1 t2 t3 ∧ Blk W1 (w.heap.size + 1 + 1) 0 0 0 0 ∧ Blk W1 (w.heap.size + 1 + 1 + 1) 0 0 0 0 := by
          obtain ⟨u1, u2, u3, u4, u5⟩ := K.out
          rw [hW1]
          exact ⟨(u1.below hb1 (by omega)).other4 (by omega), (u2.below hb1 (by omega)).other4 (by omega), (u3.below hb1 (by omega)).other4 (by omega), (u4.below hb1 (by omega)).other4 (by omega), (u5.below hb1 (by omega)).other4 (by omega)⟩
        have K1R : Blk W1 (w.heap.size + 1 + 1 + 1 + 1 + 1) (g0 (R + R)) (g1 X) (g2 X) (g3 X) := by
          rw [hW1]; exact Blk.four ⟨n0, n1, n2, n3, f0, f1, f2, f3⟩ _ _ _ _
        have hB1 : Below w.heap.size w W1 := by
          have := hBw.trans (hb1.mono hBw.size)
          rw [hW1]; repeat' (first | (with_reducible exact Below.refl _ _) | (with_reducible assumption) | (with_reducible refine bdrewN _ ?_) | (with_reducible refine Below.alloc ?_ ?_ _) | (with_reducible refine Below.setCell ?_ ?_ _) | (with_reducible refine Below.drew ?_) | go_size | (simp; omega))
        have hs1 : w.heap.size + 1 + 1 + 1 + 1 + 1 < W1.heap.size := by
          have := hb1.size
          rw [hW1]; simp; omega
        clear hW1 n0 n1 n2 n3 f0 f1 f2 f3 kR0 kR1 kR2 kR3 kR4 kR5 kR6 kR7 hb1 K hBw hsz
        have KK : Hid (Blk W1 (w.heap.size) (g0 (a)) (g1 (a)) (g2 (a)) (g3 (a)) ∧ Blk W1 (w.heap.size + 1) (g0 (b)) (g1 (b)) (g2 (b)) (g3 (b)) ∧ Blk W1 (w.heap.size + 1 + 1 + 1 + 1) t0 t1 t2 t3 ∧ Blk W1 (w.heap.size + 1 + 1) 0 0 0 0 ∧ Blk W1 (w.heap.size + 1 + 1 + 1) 0 0 0 0) := K1
        have KR : Hid (Blk W1 (w.heap.size + 1 + 1 + 1 + 1 + 1) (g0 (R + R)) (g1 X) (g2 X) (g3 X)) := K1R
        obtain ⟨⟨v0, v1, v2, v3, -, -, -, -⟩, -⟩ := K1
        obtain ⟨r0, -, -, -, r4, -, -, -⟩ := K1R
        go_region
        generalize hW : World.setCell _ _ _ = W2
        have ev : IntKind.u64.wrap (g0 (R + R) + (g1 a / 2 ^ s).tmod 2) = g0 X := by
          have e := g1_bd a
          have : 0 ≤ g1 a / 2 ^ s := Int.ediv_nonneg e.1 (by omega)
          rw [Int.tmod_eq_emod_of_nonneg this, eB, d0]
          have := g0_bd X
          rw [IntKind.wrap_u64]; omega
        have K2R : Blk W2 (w.heap.size + 1 + 1 + 1 + 1 + 1) (g0 X) (g1 X) (g2 X) (g3 X) := by
          rw [← hW, ev]; exact KR.out.set0 _
        have K2 : Hid (Blk W2 (w.heap.size) (g0 (a)) (g1 (a)) (g2 (a)) (g3 (a)) ∧ Blk W2 (w.heap.size + 1) (g0 (b)) (g1 (b)) (g2 (b)) (g3 (b)) ∧ Blk W2 (w.heap.size + 1 + 1 + 1 + 1) t0 t1 t2 t3 ∧ Blk W2 (w.heap.size + 1 + 1) 0 0 0 0 ∧ Blk W2 (w.heap.size + 1 + 1 + 1) 0 0 0 0) := by
          obtain ⟨u1, u2, u3, u4, u5⟩ := KK.out
          rw [← hW]
          exact ⟨u1.other (by omega), u2.other (by omega), u3.other (by omega), u4.other (by omega), u5.other (by omega)⟩
        have hB2 : Below w.heap.size w W2 := by rw [← hW]; repeat' (first | (with_reducible exact Below.refl _ _) | (with_reducible assumption) | (with_reducible refine bdrewN _ ?_) | (with_reducible refine Below.alloc ?_ ?_ _) | (with_reducible refine Below.setCell ?_ ?_ _) | (with_reducible refine Below.drew ?_) | go_size | (simp; omega))
        have hs2 : w.heap.size + 1 + 1 + 1 + 1 + 1 < W2.heap.size := by rw [← hW]; simp; omega
        clear hW ev KK KR hB1 hs1 v0 v1 v2 v3 r0 r4 d0 d1 d2 d3
        have KR : Hid (Blk W2 (w.heap.size + 1 + 1 + 1 + 1 + 1) (g0 X) (g1 X) (g2 X) (g3 X)) := K2R
        obtain ⟨r0, r1, r2, r3, r4, r5, r6, r7⟩ := K2R
        obtain ⟨l0, l1, l2, l3, -, -, -, -⟩ := K2.out.2.1
        obtain ⟨c, ec⟩ : ∃ c : Int, Hid (cmpI X b = c) := ⟨_, rfl⟩
        by_cases hc : b ≤ X
        · have hc0 : 0 ≤ c := by rw [← ec.out]; unfold cmpI; split <;> (try split) <;> omega
          obtain ⟨y1, y2⟩ := st1 hc
          clear st1 st2
          go_wp2_with fail
          refine (rcompare_any X b _ hX0 hX1 (by omega) (by omega)).mono ?_
          rintro e w3 ⟨rfl, hb3⟩
          rw [ec.out]
          have hH : W2.drew.heap.size = W2.heap.size := rfl
          rw [hH] at hb3
          have hb4 : Below W2.heap.size W2 w3 := ⟨hb3.os, hb3.tape, hb3.output, hb3.size, hb3.block⟩
          have hB3 := hB2.trans (hb4.mono hB2.size)
          have hs3 := hb4.size
          have hs4 : w.heap.size + 1 + 1 + 1 + 1 + 1 < w3.heap.size := by omega
          have K3 : Hid (Blk w3 (w.heap.size) (g0 (a)) (g1 (a)) (g2 (a)) (g3 (a)) ∧ Blk w3 (w.heap.size + 1) (g0 (b)) (g1 (b)) (g2 (b)) (g3 (b)) ∧ Blk w3 (w.heap.size + 1 + 1 + 1 + 1) t0 t1 t2 t3 ∧ Blk w3 (w.heap.size + 1 + 1) 0 0 0 0 ∧ Blk w3 (w.heap.size + 1 + 1 + 1) 0 0 0 0) := by
            obtain ⟨u1, u2, u3, u4, u5⟩ := K2.out
            exact ⟨u1.below hb4 (by omega), u2.below hb4 (by omega), u3.below hb4 (by omega), u4.below hb4 (by omega), u5.below hb4 (by omega)⟩
          have K3R : Hid (Blk w3 (w.heap.size + 1 + 1 + 1 + 1 + 1) (g0 X) (g1 X) (g2 X) (g3 X)) := KR.out.below hb4 (by omega)
          clear hb3 hb4 hs3 hs2 hB2 K2 KR r0 r1 r2 r3 r4 r5 r6 r7 l0 l1 l2 l3 hH
          obtain ⟨r0, r1, r2, r3, -, -, -, -⟩ := K3R.out
          obtain ⟨l0, l1, l2, l3, -, -, -, -⟩ := K3.out.2.1
          go_wp2_with fail
          refine (rless_any X b _ (by omega) hc hX1).mono ?_
          rintro e w4 ⟨rfl, hb5⟩
          have hB4 := hB3.trans (hb5.mono hB3.size)
          have hs5 := hb5.size
          have K4 : Hid (Blk w4 (w.heap.size) (g0 (a)) (g1 (a)) (g2 (a)) (g3 (a)) ∧ Blk w4 (w.heap.size + 1) (g0 (b)) (g1 (b)) (g2 (b)) (g3 (b)) ∧ Blk w4 (w.heap.size + 1 + 1 + 1 + 1) t0 t1 t2 t3 ∧ Blk w4 (w.heap.size + 1 + 1) 0 0 0 0 ∧ Blk w4 (w.heap.size + 1 + 1 + 1) 0 0 0 0) := by
            obtain ⟨u1, u2, u3, u4, u5⟩ := K3.out
            exact ⟨u1.below hb5 (by omega), u2.below hb5 (by omega), u3.below hb5 (by omega), u4.below hb5 (by omega), u5.below hb5 (by omega)⟩
          have K4R : Hid (Blk w4 (w.heap.size + 1 + 1 + 1 + 1 + 1) (g0 X) (g1 X) (g2 X) (g3 X)) := K3R.out.below hb5 (by omega)
          have hs6 : w.heap.size + 1 + 1 + 1 + 1 + 1 < w4.heap.size := by omega
          clear hb5 hs5 hs4 hB3 K3 K3R r0 r1 r2 r3 l0 l1 l2 l3
          obtain ⟨r0, r1, r2, r3, r4, r5, r6, r7⟩ := K4R.out
          obtain ⟨l0, l1, l2, l3, l4, l5, l6, l7⟩ := K4.out.2.2.1
          obtain ⟨u1, u2, u3, u4, u5⟩ := K4.out
          have u6 := K4R.out
          go_wp2
          exact ⟨⟨32 + s, t0, (t1 + 2 ^ s), t2, t3, X - b, by omega, p0, q0, (by omega), y1, p2, q2, p3, q3, y2, ⟨i0 - 1, by have := HB.out; omega, rfl⟩, (by repeat' (first | (with_reducible exact Below.refl _ _) | (with_reducible assumption) | (with_reducible refine bdrewN _ ?_) | (with_reducible refine Below.alloc ?_ ?_ _) | (with_reducible refine Below.setCell ?_ ?_ _) | (with_reducible refine Below.drew ?_) | go_size | (simp; omega))), by simp; omega, (u1.other4 (by omega)).other (by omega), (u2.other4 (by omega)).other (by omega), (u3.other4 (by omega)).set1 _, (u6.four _ _ _ _).other (by omega), (u4.other4 (by omega)).other (by omega), (u5.other4 (by omega)).other (by omega)⟩, by simp [intOf]; omega⟩
        · have hc0 : (0 ≤ c) = False := by simp; rw [← ec.out]; unfold cmpI; split <;> (try split) <;> omega
          have hc1 : c < 0 := by simpa using hc0
          have y2 := st2 (by omega)
          clear st1 st2
          go_wp2_with fail
          refine (rcompare_any X b _ hX0 hX1 (by omega) (by omega)).mono ?_
          rintro e w3 ⟨rfl, hb3⟩
          rw [ec.out]
          obtain ⟨u1, u2, u3, u4, u5⟩ := K2.out
          have u6 := KR.out
          have hH : W2.drew.heap.size = W2.heap.size := rfl
          rw [hH] at hb3
          have hb4 : Below W2.heap.size W2 w3 := ⟨hb3.os, hb3.tape, hb3.output, hb3.size, hb3.block⟩
          have hB3 := hB2.trans (hb4.mono hB2.size)
          have hs3 := hb4.size
          go_wp2
          exact ⟨⟨32 + s, t0, t1, t2, t3, X, by omega, p0, q0, p1, q1, p2, q2, p3, q3, y2, ⟨i0 - 1, by have := HB.out; omega, rfl⟩, hB3, by omega, u1.below hb4 (by omega), u2.below hb4 (by omega), u3.below hb4 (by omega), u6.below hb4 (by omega), u4.below hb4 (by omega), u5.below hb4 (by omega)⟩, by simp [intOf]; omega⟩
      · obtain ⟨st1, st2⟩ := inv_step2 a b t0 t1 t2 t3 R s hs hb p2 q2 hI.out
        obtain ⟨bit, eB⟩ : ∃ bit : Int, g2 a / 2 ^ s % 2 = bit := ⟨_, rfl⟩
        have hb0 : 0 ≤ bit := by omega
        have hb1 : bit ≤ 1 := by omega
        obtain ⟨X, hX⟩ : ∃ X : Int, 2 * R + bit = X := ⟨_, rfl⟩
        have hX0 : 0 ≤ X := by omega
        have hX1 : X < 340282366920938463463374607431768211456 := by omega
        rw [eB, hX] at st1 st2
        have e1 : i0 / 32 = 2 := by omega
        have e3 : i0 % 32 = (s : Int) := by omega
        have e2 : IntKind.i64.wrap (i0.tdiv 32) = 2 := by rw [Int.tdiv_eq_ediv_of_nonneg hi1, e1]; rfl
        have e4 : IntKind.i64.wrap (i0.tmod 32) = (s : Int) := by rw [Int.tmod_eq_emod_of_nonneg hi1, e3]; go_arith
        obtain ⟨d0, d1, d2, d3⟩ := dig_bit R bit hb0 hb1
        rw [hX] at d0 d1 d2 d3
        have HB : Hid (i0 = (64 + s + 1 : Nat) - 1) := hi0
        clear hi0
        have K : Hid (Blk wr (w.heap.size) (g0 (a)) (g1 (a)) (g2 (a)) (g3 (a)) ∧ Blk wr (w.heap.size + 1) (g0 (b)) (g1 (b)) (g2 (b)) (g3 (b)) ∧ Blk wr (w.heap.size + 1 + 1 + 1 + 1) t0 t1 t2 t3 ∧ Blk wr (w.heap.size + 1 + 1) 0 0 0 0 ∧ Blk wr (w.heap.size + 1 + 1 + 1) 0 0 0 0) := ⟨kA, kB, kT, kX, kY⟩
        clear kA kB kT kX kY
        obtain ⟨kR0, kR1, kR2, kR3, kR4, kR5, kR6, kR7⟩ := kR
        go_wp2_with fail
        refine (rplus_any R R _ hR0 hR0 (by omega)).mono ?_
        rintro e w1 ⟨rfl, hb1⟩
        obtain ⟨n0, n1, n2, n3⟩ := (⟨bcl2 hb1 kR0 (by simp; omega), bcl2 hb1 kR1 (by simp; omega), bcl2 hb1 kR2 (by simp; omega), bcl2 hb1 kR3 (by simp; omega)⟩ : w1.cell? ⟨w.heap.size + 1 + 1 + 1 + 1 + 1, 0, none⟩ = some (.int .u64 (g0 R)) ∧ w1.cell? ⟨w.heap.size + 1 + 1 + 1 + 1 + 1, 1, none⟩ = some (.int .u64 (g1 R)) ∧ w1.cell? ⟨w.heap.size + 1 + 1 + 1 + 1 + 1, 2, none⟩ = some (.int .u64 (g2 R)) ∧ w1.cell? ⟨w.heap.size + 1 + 1 + 1 + 1 + 1, 3, none⟩ = some (.int .u64 (g3 R)))
        obtain ⟨f0, f1, f2, f3⟩ := (⟨bfr2 hb1 kR4 (by simp; omega), bfr2 hb1 kR5 (by simp; omega), bfr2 hb1 kR6 (by simp; omega), bfr2 hb1 kR7 (by simp; omega)⟩ : w1.frozen? ⟨w.heap.size + 1 + 1 + 1 + 1 + 1, 0, none⟩ = false ∧ w1.frozen? ⟨w.heap.size + 1 + 1 + 1 + 1 + 1, 1, none⟩ = false ∧ w1.frozen? ⟨w.heap.size + 1 + 1 + 1 + 1 + 1, 2, none⟩ = false ∧ w1.frozen? ⟨w.heap.size + 1 + 1 + 1 + 1 + 1, 3, none⟩ = false)
        go_wp2_with fail
        refine wp_world ?_
        intro W1 hW1
        have K1 : Blk W1 (w.heap.size) (g0 (a)) (g1 (a)) (g2 (a)) (g3 (a)) ∧ Blk W1 (w.heap.size + 1) (g0 (b)) (g1 (b)) (g2 (b)) (g3 (b)) ∧ Blk W1 (w.heap.size + 1 + 1 + 1 + 1) t0 t1 t2 t3 ∧ Blk W1 (w.heap.size + 1 + 1) 0 0 0 0 ∧ Blk W1 (w.heap.size + 1 + 1 + 1) 0 0 0 0 := by
          obtain ⟨u1, u2, u3, u4, u5⟩ := K.out
          rw [hW1]
          exact ⟨(u1.below hb1 (by omega)).other4 (by omega), (u2.below hb1 (by omega)).other4 (by omega), (u3.below hb1 (by omega)).other4 (by omega), (u4.below hb1 (by omega)).other4 (by omega), (u5.below hb1 (by omega)).other4 (by omega)⟩
        have K1R : Blk W1 (w.heap.size + 1 + 1 + 1 + 1 + 1) (g0 (R + R)) (g1 X) (g2 X) (g3 X) := by
          rw [hW1]; exact Blk.four ⟨n0, n1, n2, n3, f0, f1, f2, f3⟩ _ _ _ _
        have hB1 : Below w.heap.size w W1 := by
          have := hBw.trans (hb1.mono hBw.size)
          rw [hW1]; repeat' (first | (with_reducible exact Below.refl _ _) | (with_reducible assumption) | (with_reducible refine bdrewN _ ?_) | (with_reducible refine Below.alloc ?_ ?_ _) | (with_reducible refine Below.setCell ?_ ?_ _) | (with_reducible refine Below.drew ?_) | go_size | (simp; omega))
        have hs1 : w.heap.size + 1 + 1 + 1 + 1 + 1 < W1.heap.size := by
          have := hb1.size
          rw [hW1]; simp; omega
        clear hW1 n0 n1 n2 n3 f0 f1 f2 f3 kR0 kR1 kR2 kR3 kR4 kR5 kR6 kR7 hb1 K hBw hsz
        have KK : Hid (Blk W1 (w.heap.size) (g0 (a)) (g1 (a)) (g2 (a)) (g3 (a)) ∧ Blk W1 (w.heap.size + 1) (g0 (b)) (g1 (b)) (g2 (b)) (g3 (b)) ∧ Blk W1 (w.heap.size + 1 + 1 + 1 + 1) t0 t1 t2 t3 ∧ Blk W1 (w.heap.size + 1 + 1) 0 0 0 0 ∧ Blk W1 (w.heap.size + 1 + 1 + 1) 0 0 0 0) := K1
        have KR : Hid (Blk W1 (w.heap.size + 1 + 1 + 1 + 1 + 1) (g0 (R + R)) (g1 X) (g2 X) (g3 X)) := K1R
        obtain ⟨⟨v0, v1, v2, v3, -, -, -, -⟩, -⟩ := K1
        obtain ⟨r0, -, -, -, r4, -, -, -⟩ := K1R
        go_region
        generalize hW : World.setCell _ _ _ = W2
        have ev : IntKind.u64.wrap (g0 (R + R) + (g2 a / 2 ^ s).tmod 2) = g0 X := by
          have e := g2_bd a
          have : 0 ≤ g2 a / 2 ^ s := Int.ediv_nonneg e.1 (by omega)
          rw [Int.tmod_eq_emod_of_nonneg this, eB, d0]
          have := g0_bd X
          rw [IntKind.wrap_u64]; omega
        have K2R : Blk W2 (w.heap.size + 1 + 1 + 1 + 1 + 1) (g0 X) (g1 X) (g2 X) (g3 X) := by
          rw [← hW, ev]; exact KR.out.set0 _
        have K2 : Hid (Blk W2 (w.heap.size) (g0 (a)) (g1 (a)) (g2 (a)) (g3 (a)) ∧ Blk W2 (w.heap.size + 1) (g0 (b)) (g1 (b)) (g2 (b)) (g3 (b)) ∧ Blk W2 (w.heap.size + 1 + 1 + 1 + 1) t0 t1 t2 t3 ∧ Blk W2 (w.heap.size + 1 + 1) 0 0 0 0 ∧ Blk W2 (w.heap.size + 1 + 1 + 1) 0 0 0 0) := by
          obtain ⟨u1, u2, u3, u4, u5⟩ := KK.out
          rw [← hW]
          exact ⟨u1.other (by omega), u2.other (by omega), u3.other (by omega), u4.other (by omega), u5.other (by omega)⟩
        have hB2 : Below w.heap.size w W2 := by rw [← hW]; repeat' (first | (with_reducible exact Below.refl _ _) | (with_reducible assumption) | (with_reducible refine bdrewN _ ?_) | (with_reducible refine Below.alloc ?_ ?_ _) | (with_reducible refine Below.setCell ?_ ?_ _) | (with_reducible refine Below.drew ?_) | go_size | (simp; omega))
        have hs2 : w.heap.size + 1 + 1 + 1 + 1 + 1 < W2.heap.size := by rw [← hW]; simp; omega
        clear hW ev KK KR hB1 hs1 v0 v1 v2 v3 r0 r4 d0 d1 d2 d3
        have KR : Hid (Blk W2 (w.heap.size + 1 + 1 + 1 + 1 + 1) (g0 X) (g1 X) (g2 X) (g3 X)) := K2R
        obtain ⟨r0, r1, r2, r3, r4, r5, r6, r7⟩ := K2R
        obtain ⟨l0, l1, l2, l3, -, -, -, -⟩ := K2.out.2.1
        obtain ⟨c, ec⟩ : ∃ c : Int, Hid (cmpI X b = c) := ⟨_, rfl⟩
        by_cases hc : b ≤ X
        · have hc0 : 0 ≤ c := by rw [← ec.out]; unfold cmpI; split <;> (try split) <;> omega
          obtain ⟨y1, y2⟩ := st1 hc
          clear st1 st2
          go_wp2_with fail
          refine (rcompare_any X b _ hX0 hX1 (by omega) (by omega)).mono ?_
          rintro e w3 ⟨rfl, hb3⟩
          rw [ec.out]
          have hH : W2.drew.heap.size = W2.heap.size := rfl
          rw [hH] at hb3
          have hb4 : Below W2.heap.size W2 w3 := ⟨hb3.os, hb3.tape, hb3.output, hb3.size, hb3.block⟩
          have hB3 := hB2.trans (hb4.mono hB2.size)
          have hs3 := hb4.size
          have hs4 : w.heap.size + 1 + 1 + 1 + 1 + 1 < w3.heap.size := by omega
          have K3 : Hid (Blk w3 (w.heap.size) (g0 (a)) (g1 (a)) (g2 (a)) (g3 (a)) ∧ Blk w3 (w.heap.size + 1) (g0 (b)) (g1 (b)) (g2 (b)) (g3 (b)) ∧ Blk w3 (w.heap.size + 1 + 1 + 1 + 1) t0 t1 t2 t3 ∧ Blk w3 (w.heap.size + 1 + 1) 0 0 0 0 ∧ Blk w3 (w.heap.size + 1 + 1 + 1) 0 0 0 0) := by
            obtain ⟨u1, u2, u3, u4, u5⟩ := K2.out
            exact ⟨u1.below hb4 (by omega), u2.below hb4 (by omega), u3.below hb4 (by omega), u4.below hb4 (by omega), u5.below hb4 (by omega)⟩
          have K3R : Hid (Blk w3 (w.heap.size + 1 + 1 + 1 + 1 + 1) (g0 X) (g1 X) (g2 X) (g3 X)) := KR.out.below hb4 (by omega)
          clear hb3 hb4 hs3 hs2 hB2 K2 KR r0 r1 r2 r3 r4 r5 r6 r7 l0 l1 l2 l3 hH
          obtain ⟨r0, r1, r2, r3, -, -, -, -⟩ := K3R.out
          obtain ⟨l0, l1, l2, l3, -, -, -, -⟩ := K3.out.2.1
          go_wp2_with fail
          refine (rless_any X b _ (by omega) hc hX1).mono ?_
          rintro e w4 ⟨rfl, hb5⟩
          have hB4 := hB3.trans (hb5.mono hB3.size)
          have hs5 := hb5.size
          have K4 : Hid (Blk w4 (w.heap.size) (g0 (a)) (g1 (a)) (g2 (a)) (g3 (a)) ∧ Blk w4 (w.heap.size + 1) (g0 (b)) (g1 (b)) (g2 (b)) (g3 (b)) ∧ Blk w4 (w.heap.size + 1 + 1 + 1 + 1) t0 t1 t2 t3 ∧ Blk w4 (w.heap.size + 1 + 1) 0 0 0 0 ∧ Blk w4 (w.heap.size + 1 + 1 + 1) 0 0 0 0) := by
            obtain ⟨u1, u2, u3, u4, u5⟩ := K3.out
            exact ⟨u1.below hb5 (by omega), u2.below hb5 (by omega), u3.below hb5 (by omega), u4.below hb5 (by omega), u5.below hb5 (by omega)⟩
          have K4R : Hid (Blk w4 (w.heap.size + 1 + 1 + 1 + 1 + 1) (g0 X) (g1 X) (g2 X) (g3 X)) := K3R.out.below hb5 (by omega)
          have hs6 : w.heap.size + 1 + 1 + 1 + 1 + 1 < w4.heap.size := by omega
          clear hb5 hs5 hs4 hB3 K3 K3R r0 r1 r2 r3 l0 l1 l2 l3
          obtain ⟨r0, r1, r2, r3, r4, r5, r6, r7⟩ := K4R.out
          obtain ⟨l0, l1, l2, l3, l4, l5, l6, l7⟩ := K4.out.2.2.1
          obtain ⟨u1, u2, u3, u4, u5⟩ := K4.out
          have u6 := K4R.out
          go_wp2
          exact ⟨⟨64 + s, t0, t1, (t2 + 2 ^ s), t3, X - b, by omega, p0, q0, p1, q1, (by omega), y1, p3, q3, y2, ⟨i0 - 1, by have := HB.out; omega, rfl⟩, (by repeat' (first | (with_reducible exact Below.refl _ _) | (with_reducible assumption) | (with_reducible refine bdrewN _ ?_) | (with_reducible refine Below.alloc ?_ ?_ _) | (with_reducible refine Below.setCell ?_ ?_ _) | (with_reducible refine Below.drew ?_) | go_size | (simp; omega))), by simp; omega, (u1.other4 (by omega)).other (by omega), (u2.other4 (by omega)).other (by omega), (u3.other4 (by omega)).set2 _, (u6.four _ _ _ _).other (by omega), (u4.other4 (by omega)).other (by omega), (u5.other4 (by omega)).other (by omega)⟩, by simp [intOf]; omega⟩
        · have hc0 : (0 ≤ c) = False := by simp; rw [← ec.out]; unfold cmpI; split <;> (try split) <;> omega
          have hc1 : c < 0 := by simpa using hc0
          have y2 := st2 (by omega)
          clear st1 st2
          go_wp2_with fail
          refine (rcompare_any X b _ hX0 hX1 (by omega) (by omega)).mono ?_
          rintro e w3 ⟨rfl, hb3⟩
          rw [ec.out]
          obtain ⟨u1, u2, u3, u4, u5⟩ := K2.out
          have u6 := KR.out
          have hH : W2.drew.heap.size = W2.heap.size := rfl
          rw [hH] at hb3
          have hb4 : Below W2.heap.size W2 w3 := ⟨hb3.os, hb3.tape, hb3.output, hb3.size, hb3.block⟩
          have hB3 := hB2.trans (hb4.mono hB2.size)
          have hs3 := hb4.size
          go_wp2
          exact ⟨⟨64 + s, t0, t1, t2, t3, X, by omega, p0, q0, p1, q1, p2, q2, p3, q3, y2, ⟨i0 - 1, by have := HB.out; omega, rfl⟩, hB3, by omega, u1.below hb4 (by omega), u2.below hb4 (by omega), u3.below hb4 (by omega), u6.below hb4 (by omega), u4.below hb4 (by omega), u5.below hb4 (by omega)⟩, by simp [intOf]; omega⟩
      · obtain ⟨st1, st2⟩ := inv_step3 a b t0 t1 t2 t3 R s hs hb p3 q3 hI.out
        obtain ⟨bit, eB⟩ : ∃ bit : Int, g3 a / 2 ^ s % 2 = bit := ⟨_, rfl⟩
        have hb0 : 0 ≤ bit := by omega
        have hb1 : bit ≤ 1 := by omega
        obtain ⟨X, hX⟩ : ∃ X : Int, 2 * R + bit = X := ⟨_, rfl⟩
        have hX0 : 0 ≤ X := by omega
        have hX1 : X < 340282366920938463463374607431768211456 := by omega
        rw [eB, hX] at st1 st2
        have e1 : i0 / 32 = 3 := by omega
        have e3 : i0 % 32 = (s : Int) := by omega
        have e2 : IntKind.i64.wrap (i0.tdiv 32) = 3 := by rw [Int.tdiv_eq_ediv_of_nonneg hi1, e1]; rfl
        have e4 : IntKind.i64.wrap (i0.tmod 32) = (s : Int) := by rw [Int.tmod_eq_emod_of_nonneg hi1, e3]; go_arith
        obtain ⟨d0, d1, d2, d3⟩ := dig_bit R bit hb0 hb1
        rw [hX] at d0 d1 d2 d3
        have HB : Hid (i0 = (96 + s + 1 : Nat) - 1) := hi0
        clear hi0
        have K : Hid (Blk wr (w.heap.size) (g0 (a)) (g1 (a)) (g2 (a)) (g3 (a)) ∧ Blk wr (w.heap.size + 1) (g0 (b)) (g1 (b)) (g2 (b)) (g3 (b)) ∧ Blk wr (w.heap.size + 1 + 1 + 1 + 1) t0 t1 t2 t3 ∧ Blk wr (w.heap.size + 1 + 1) 0 0 0 0 ∧ Blk wr (w.heap.size + 1 + 1 + 1) 0 0 0 0) := ⟨kA, kB, kT, kX, kY⟩
        clear kA kB kT kX kY
        obtain ⟨kR0, kR1, kR2, kR3, kR4, kR5, kR6, kR7⟩ := kR
        go_wp2_with fail
        refine (rplus_any R R _ hR0 hR0 (by omega)).mono ?_
        rintro e w1 ⟨rfl, hb1⟩
        obtain ⟨n0, n1, n2, n3⟩ := (⟨bcl2 hb1 kR0 (by simp; omega), bcl2 hb1 kR1 (by simp; omega), bcl2 hb1 kR2 (by simp; omega), bcl2 hb1 kR3 (by simp; omega)⟩ : w1.cell? ⟨w.heap.size + 1 + 1 + 1 + 1 + 1, 0, none⟩ = some (.int .u64 (g0 R)) ∧ w1.cell? ⟨w.heap.size + 1 + 1 + 1 + 1 + 1, 1, none⟩ = some (.int .u64 (g1 R)) ∧ w1.cell? ⟨w.heap.size + 1 + 1 + 1 + 1 + 1, 2, none⟩ = some (.int .u64 (g2 R)) ∧ w1.cell? ⟨w.heap.size + 1 + 1 + 1 + 1 + 1, 3, none⟩ = some (.int .u64 (g3 R)))
        obtain ⟨f0, f1, f2, f3⟩ := (⟨bfr2 hb1 kR4 (by simp; omega), bfr2 hb1 kR5 (by simp; omega), bfr2 hb1 kR6 (by simp; omega), bfr2 hb1 kR7 (by simp; omega)⟩ : w1.frozen? ⟨w.heap.size + 1 + 1 + 1 + 1 + 1, 0, none⟩ = false ∧ w1.frozen? ⟨w.heap.size + 1 + 1 + 1 + 1 + 1, 1, none⟩ = false ∧ w1.frozen? ⟨w.heap.size + 1 + 1 + 1 + 1 + 1, 2, none⟩ = false ∧ w1.frozen? ⟨w.heap.size + 1 + 1 + 1 + 1 + 1, 3, none⟩ = false)
        go_wp2_with fail
        refine wp_world ?_
        intro W1 hW1
        have K1 : Blk W1 (w.heap.size) (g0 (a)) (g1 (a)) (g2 (a)) (g3 (a)) ∧ Blk W1 (w.heap.size + 1) (g0 (b)) (g1 (b)) (g2 (b)) (g3 (b)) ∧ Blk W1 (w.heap.size + 1 + 1 + 1 + 1) t0 t1 t2 t3 ∧ Blk W1 (w.heap.size + 1 + 1) 0 0 0 0 ∧ Blk W1 (w.heap.size + 1 + 1 + 1) 0 0 0 0 := by
          obtain ⟨u1, u2, u3, u4, u5⟩ := K.out
          rw [hW1]
          exact ⟨(u1.below hb1 (by omega)).other4 (by omega), (u2.below hb1 (by omega)).other4 (by omega), (u3.below hb1 (by omega)).other4 (by omega), (u4.below hb1 (by omega)).other4 (by omega), (u5.below hb1 (by omega)).other4 (by omega)⟩
        have K1R : Blk W1 (w.heap.size + 1 + 1 + 1 + 1 + 1) (g0 (R + R)) (g1 X) (g2 X) (g3 X) := by
          rw [hW1]; exact Blk.four ⟨n0, n1, n2, n3, f0, f1, f2, f3⟩ _ _ _ _
        have hB1 : Below w.heap.size w W1 := by
          have := hBw.trans (hb1.mono hBw.size)
          rw [hW1]; repeat' (first | (with_reducible exact Below.refl _ _) | (with_reducible assumption) | (with_reducible refine bdrewN _ ?_) | (with_reducible refine Below.alloc ?_ ?_ _) | (with_reducible refine Below.setCell ?_ ?_ _) | (with_reducible refine Below.drew ?_) | go_size | (simp; omega))
        have hs1 : w.heap.size + 1 + 1 + 1 + 1 + 1 < W1.heap.size := by
          have := hb1.size
          rw [hW1]; simp; omega
        clear hW1 n0 n1 n2 n3 f0 f1 f2 f3 kR0 kR1 kR2 kR3 kR4 kR5 kR6 kR7 hb1 K hBw hsz
        have KK : Hid (Blk W1 (w.heap.size) (g0 (a)) (g1 (a)) (g2 (a)) (g3 (a)) ∧ Blk W1 (w.heap.size + 1) (g0 (b)) (g1 (b)) (g2 (b)) (g3 (b)) ∧ Blk W1 (w.heap.size + 1 + 1 + 1 + 1) t0 t1 t2 t3 ∧ Blk W1 (w.heap.size + 1 + 1) 0 0 0 0 ∧ Blk W1 (w.heap.size + 1 + 1 + 1) 0 0 0 0) := K1
        have KR : Hid (Blk W1 (w.heap.size + 1 + 1 + 1 + 1 + 1) (g0 (R + R)) (g1 X) (g2 X) (g3 X)) := K1R
        obtain ⟨⟨v0, v1, v2, v3, -, -, -, -⟩, -⟩ := K1
        obtain ⟨r0, -, -, -, r4, -, -, -⟩ := K1R
        go_region
        generalize hW : World.setCell _ _ _ = W2
        have ev : IntKind.u64.wrap (g0 (R + R) + (g3 a / 2 ^ s).tmod 2) = g0 X := by
          have e := g3_bd a
          have : 0 ≤ g3 a / 2 ^ s := Int.ediv_nonneg e.1 (by omega)
          rw [Int.tmod_eq_emod_of_nonneg this, eB, d0]
          have := g0_bd X
          rw [IntKind.wrap_u64]; omega
        have K2R : Blk W2 (w.heap.size + 1 + 1 + 1 + 1 + 1) (g0 X) (g1 X) (g2 X) (g3 X) := by
          rw [← hW, ev]; exact KR.out.set0 _
        have K2 : Hid (Blk W2 (w.heap.size) (g0 (a)) (g1 (a)) (g2 (a)) (g3 (a)) ∧ Blk W2 (w.heap.size + 1) (g0 (b)) (g1 (b)) (g2 (b)) (g3 (b)) ∧ Blk W2 (w.heap.size + 1 + 1 + 1 + 1) t0 t1 t2 t3 ∧ Blk W2 (w.heap.size + 1 + 1) 0 0 0 0 ∧ Blk W2 (w.heap.size + 1 + 1 + 1) 0 0 0 0) := by
          obtain ⟨u1, u2, u3, u4, u5⟩ := KK.out
          rw [← hW]
          exact ⟨u1.other (by omega), u2.other (by omega), u3.other (by omega), u4.other (by omega), u5.other (by omega)⟩
        have hB2 : Below w.heap.size w W2 := by rw [← hW]; repeat' (first | (with_reducible exact Below.refl _ _) | (with_reducible assumption) | (with_reducible refine bdrewN _ ?_) | (with_reducible refine Below.alloc ?_ ?_ _) | (with_reducible refine Below.setCell ?_ ?_ _) | (with_reducible refine Below.drew ?_) | go_size | (simp; omega))
        have hs2 : w.heap.size + 1 + 1 + 1 + 1 + 1 < W2.heap.size := by rw [← hW]; simp; omega
        clear hW ev KK KR hB1 hs1 v0 v1 v2 v3 r0 r4 d0 d1 d2 d3
        have KR : Hid (Blk W2 (w.heap.size + 1 + 1 + 1 + 1 + 1) (g0 X) (g1 X) (g2 X) (g3 X)) := K2R
        obtain ⟨r0, r1, r2, r3, r4, r5, r6, r7⟩ := K2R
        obtain ⟨l0, l1, l2, l3, -, -, -, -⟩ := K2.out.2.1
        obtain ⟨c, ec⟩ : ∃ c : Int, Hid (cmpI X b = c) := ⟨_, rfl⟩
        by_cases hc : b ≤ X
        · have hc0 : 0 ≤ c := by rw [← ec.out]; unfold cmpI; split <;> (try split) <;> omega
          obtain ⟨y1, y2⟩ := st1 hc
          clear st1 st2
          go_wp2_with fail
          refine (rcompare_any X b _ hX0 hX1 (by omega) (by omega)).mono ?_
          rintro e w3 ⟨rfl, hb3⟩
          rw [ec.out]
          have hH : W2.drew.heap.size = W2.heap.size := rfl
          rw [hH] at hb3
          have hb4 : Below W2.heap.size W2 w3 := ⟨hb3.os, hb3.tape, hb3.output, hb3.size, hb3.block⟩
          have hB3 := hB2.trans (hb4.mono hB2.size)
          have hs3 := hb4.size
          have hs4 : w.heap.size + 1 + 1 + 1 + 1 + 1 < w3.heap.size := by omega
          have K3 : Hid (Blk w3 (w.heap.size) (g0 (a)) (g1 (a)) (g2 (a)) (g3 (a)) ∧ Blk w3 (w.heap.size + 1) (g0 (b)) (g1 (b)) (g2 (b)) (g3 (b)) ∧ Blk w3 (w.heap.size + 1 + 1 + 1 + 1) t0 t1 t2 t3 ∧ Blk w3 (w.heap.size + 1 + 1) 0 0 0 0 ∧ Blk w3 (w.heap.size + 1 + 1 + 1) 0 0 0 0) := by
            obtain ⟨u1, u2, u3, u4, u5⟩ := K2.out
            exact ⟨u1.below hb4 (by omega), u2.below hb4 (by omega), u3.below hb4 (by omega), u4.below hb4 (by omega), u5.below hb4 (by omega)⟩
          have K3R : Hid (Blk w3 (w.heap.size + 1 + 1 + 1 + 1 + 1) (g0 X) (g1 X) (g2 X) (g3 X)) := KR.out.below hb4 (by omega)
          clear hb3 hb4 hs3 hs2 hB2 K2 KR r0 r1 r2 r3 r4 r5 r6 r7 l0 l1 l2 l3 hH
          obtain ⟨r0, r1, r2, r3, -, -, -, -⟩ := K3R.out
          obtain ⟨l0, l1, l2, l3, -, -, -, -⟩ := K3.out.2.1
          go_wp2_with fail
          refine (rless_any X b _ (by omega) hc hX1).mono ?_
          rintro e w4 ⟨rfl, hb5⟩
          have hB4 := hB3.trans (hb5.mono hB3.size)
          have hs5 := hb5.size
          have K4 : Hid (Blk w4 (w.heap.size) (g0 (a)) (g1 (a)) (g2 (a)) (g3 (a)) ∧ Blk w4 (w.heap.size + 1) (g0 (b)) (g1 (b)) (g2 (b)) (g3 (b)) ∧ Blk w4 (w.heap.size + 1 + 1 + 1 + 1) t0 t1 t2 t3 ∧ Blk w4 (w.heap.size + 1 + 1) 0 0 0 0 ∧ Blk w4 (w.heap.size + 1 + 1 + 1) 0 0 0 0) := by
            obtain ⟨u1, u2, u3, u4, u5⟩ := K3.out
            exact ⟨u1.below hb5 (by omega), u2.below hb5 (by omega), u3.below hb5 (by omega), u4.below hb5 (by omega), u5.below hb5 (by omega)⟩
          have K4R : Hid (Blk w4 (w.heap.size + 1 + 1 + 1 + 1 + 1) (g0 X) (g1 X) (g2 X) (g3 X)) := K3R.out.below hb5 (by omega)
          have hs6 : w.heap.size + 1 + 1 + 1 + 1 + 1 < w4.heap.size := by omega
          clear hb5 hs5 hs4 hB3 K3 K3R r0 r1 r2 r3 l0 l1 l2 l3
          obtain ⟨r0, r1, r2, r3, r4, r5, r6, r7⟩ := K4R.out
          obtain ⟨l0, l1, l2, l3, l4, l5, l6, l7⟩ := K4.out.2.2.1
          obtain ⟨u1, u2, u3, u4, u5⟩ := K4.out
          have u6 := K4R.out
          go_wp2
          exact ⟨⟨96 + s, t0, t1, t2, (t3 + 2 ^ s), X - b, by omega, p0, q0, p1, q1, p2, q2, (by omega), y1, y2, ⟨i0 - 1, by have := HB.out; omega, rfl⟩, (by repeat' (first | (with_reducible exact Below.refl _ _) | (with_reducible assumption) | (with_reducible refine bdrewN _ ?_) | (with_reducible refine Below.alloc ?_ ?_ _) | (with_reducible refine Below.setCell ?_ ?_ _) | (with_reducible refine Below.drew ?_) | go_size | (simp; omega))), by simp; omega, (u1.other4 (by omega)).other (by omega), (u2.other4 (by omega)).other (by omega), (u3.other4 (by omega)).set3 _, (u6.four _ _ _ _).other (by omega), (u4.other4 (by omega)).other (by omega), (u5.other4 (by omega)).other (by omega)⟩, by simp [intOf]; omega⟩
        · have hc0 : (0 ≤ c) = False := by simp; rw [← ec.out]; unfold cmpI; split <;> (try split) <;> omega
          have hc1 : c < 0 := by simpa using hc0
          have y2 := st2 (by omega)
          clear st1 st2
          go_wp2_with fail
          refine (rcompare_any X b _ hX0 hX1 (by omega) (by omega)).mono ?_
          rintro e w3 ⟨rfl, hb3⟩
          rw [ec.out]
          obtain ⟨u1, u2, u3, u4, u5⟩ := K2.out
          have u6 := KR.out
          have hH : W2.drew.heap.size = W2.heap.size := rfl
          rw [hH] at hb3
          have hb4 : Below W2.heap.size W2 w3 := ⟨hb3.os, hb3.tape, hb3.output, hb3.size, hb3.block⟩
          have hB3 := hB2.trans (hb4.mono hB2.size)
          have hs3 := hb4.size
          go_wp2
          exact ⟨⟨96 + s, t0, t1, t2, t3, X, by omega, p0, q0, p1, q1, p2, q2, p3, q3, y2, ⟨i0 - 1, by have := HB.out; omega, rfl⟩, hB3, by omega, u1.below hb4 (by omega), u2.below hb4 (by omega), u3.below hb4 (by omega), u6.below hb4 (by omega), u4.below hb4 (by omega), u5.below hb4 (by omega)⟩, by simp [intOf]; omega⟩

end Go.Proofs.YtedoahibceeklabGreatDoor
