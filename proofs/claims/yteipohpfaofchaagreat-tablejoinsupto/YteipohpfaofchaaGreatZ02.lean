/- The orders of values of one kind. -/
import Derived.Test.YteipohpfaofchaaGreatZ01
import Derived.Handy
import Derived.ChangeKeysEq
import Derived.Deep.Cut
import Derived.BigQuiet

namespace Go.Proofs.YteipohpfaofchaaGreat
open Go.RowKit

/-- A block of four digits, which may be written. -/
structure Blk (W : World) (B : Nat) (v0 v1 v2 v3 : Int) : Prop where
  c0 : W.cell? ⟨B, 0, none⟩ = some (.int .u64 v0)
  c1 : W.cell? ⟨B, 1, none⟩ = some (.int .u64 v1)
  c2 : W.cell? ⟨B, 2, none⟩ = some (.int .u64 v2)
  c3 : W.cell? ⟨B, 3, none⟩ = some (.int .u64 v3)
  f0 : W.frozen? ⟨B, 0, none⟩ = false
  f1 : W.frozen? ⟨B, 1, none⟩ = false
  f2 : W.frozen? ⟨B, 2, none⟩ = false
  f3 : W.frozen? ⟨B, 3, none⟩ = false

theorem Blk.below {W W' : World} {B n : Nat} {v0 v1 v2 v3 : Int} (h : Blk W B v0 v1 v2 v3) (hb : Below n W W') (hB : B < n) : Blk W' B v0 v1 v2 v3 :=
  ⟨(hb.cell (p := ⟨B, 0, none⟩) hB).trans h.c0, (hb.cell (p := ⟨B, 1, none⟩) hB).trans h.c1, (hb.cell (p := ⟨B, 2, none⟩) hB).trans h.c2, (hb.cell (p := ⟨B, 3, none⟩) hB).trans h.c3,
   (hb.frozen (p := ⟨B, 0, none⟩) hB).trans h.f0, (hb.frozen (p := ⟨B, 1, none⟩) hB).trans h.f1, (hb.frozen (p := ⟨B, 2, none⟩) hB).trans h.f2, (hb.frozen (p := ⟨B, 3, none⟩) hB).trans h.f3⟩

theorem Blk.set0 {W : World} {B : Nat} {v0 v1 v2 v3 : Int} (h : Blk W B v0 v1 v2 v3) (x : Int) : Blk (W.setCell ⟨B, 0, none⟩ (.int .u64 x)) B x v1 v2 v3 := by
  obtain ⟨c0, c1, c2, c3, f0, f1, f2, f3⟩ := h
  constructor <;> simp (maxDischargeDepth := 12) [go_sem, c0, c1, c2, c3, f0, f1, f2, f3]
theorem Blk.set1 {W : World} {B : Nat} {v0 v1 v2 v3 : Int} (h : Blk W B v0 v1 v2 v3) (x : Int) : Blk (W.setCell ⟨B, 1, none⟩ (.int .u64 x)) B v0 x v2 v3 := by
  obtain ⟨c0, c1, c2, c3, f0, f1, f2, f3⟩ := h
  constructor <;> simp (maxDischargeDepth := 12) [go_sem, c0, c1, c2, c3, f0, f1, f2, f3]
theorem Blk.set2 {W : World} {B : Nat} {v0 v1 v2 v3 : Int} (h : Blk W B v0 v1 v2 v3) (x : Int) : Blk (W.setCell ⟨B, 2, none⟩ (.int .u64 x)) B v0 v1 x v3 := by
  obtain ⟨c0, c1, c2, c3, f0, f1, f2, f3⟩ := h
  constructor <;> simp (maxDischargeDepth := 12) [go_sem, c0, c1, c2, c3, f0, f1, f2, f3]
theorem Blk.set3 {W : World} {B : Nat} {v0 v1 v2 v3 : Int} (h : Blk W B v0 v1 v2 v3) (x : Int) : Blk (W.setCell ⟨B, 3, none⟩ (.int .u64 x)) B v0 v1 v2 x := by
  obtain ⟨c0, c1, c2, c3, f0, f1, f2, f3⟩ := h
  constructor <;> simp (maxDischargeDepth := 12) [go_sem, c0, c1, c2, c3, f0, f1, f2, f3]
theorem Blk.other {W : World} {B C o : Nat} {v0 v1 v2 v3 : Int} {x : Value} (h : Blk W C v0 v1 v2 v3) (hne : C ≠ B) : Blk (W.setCell ⟨B, o, none⟩ x) C v0 v1 v2 v3 := by
  obtain ⟨c0, c1, c2, c3, f0, f1, f2, f3⟩ := h
  constructor <;> simp (maxDischargeDepth := 12) [go_sem, c0, c1, c2, c3, f0, f1, f2, f3]
theorem Blk.four {W : World} {B : Nat} {v0 v1 v2 v3 : Int} (h : Blk W B v0 v1 v2 v3) (x0 x1 x2 x3 : Int) : Blk ((((W.setCell ⟨B, 0, none⟩ (.int .u64 x0)).setCell ⟨B, 1, none⟩ (.int .u64 x1)).setCell ⟨B, 2, none⟩ (.int .u64 x2)).setCell ⟨B, 3, none⟩ (.int .u64 x3)) B x0 x1 x2 x3 :=
  (((h.set0 x0).set1 x1).set2 x2).set3 x3
theorem Blk.other4 {W : World} {B C : Nat} {v0 v1 v2 v3 : Int} {x0 x1 x2 x3 : Value} (h : Blk W C v0 v1 v2 v3) (hne : C ≠ B) : Blk ((((W.setCell ⟨B, 0, none⟩ x0).setCell ⟨B, 1, none⟩ x1).setCell ⟨B, 2, none⟩ x2).setCell ⟨B, 3, none⟩ x3) C v0 v1 v2 v3 :=
  (((h.other hne).other hne).other hne).other hne
theorem Blk.drew {W : World} {B : Nat} {v0 v1 v2 v3 : Int} (h : Blk W B v0 v1 v2 v3) : Blk W.drew B v0 v1 v2 v3 :=
  ⟨h.c0, h.c1, h.c2, h.c3, h.f0, h.f1, h.f2, h.f3⟩
theorem Blk.drewN {W : World} {B : Nat} {v0 v1 v2 v3 : Int} (h : Blk W B v0 v1 v2 v3) (n : Nat) : Blk (W.drewN n) B v0 v1 v2 v3 :=
  ⟨h.c0, h.c1, h.c2, h.c3, h.f0, h.f1, h.f2, h.f3⟩

theorem bcl2 {n : Nat} {W0 wx : World} (h : Below n W0 wx) {a : Addr} {v : Value} (hv : W0.cell? a = some v) (ha : a.block < n) : wx.cell? a = some v := (h.cell ha).trans hv
theorem bfr2 {n : Nat} {W0 wx : World} (h : Below n W0 wx) {a : Addr} (hv : W0.frozen? a = false) (ha : a.block < n) : wx.frozen? a = false := (h.frozen ha).trans hv

theorem inv_start (a b : Int) (ha : 0 ≤ a) (ha' : a < 340282366920938463463374607431768211456) : Inv a b 128 0 0 0 0 0 := by
  have e : a / 2 ^ 128 = 0 := Int.ediv_eq_zero_of_lt ha ha'
  refine ⟨by rw [e]; simp, by rw [e]; simp, by simp, by simp, by simp, by simp⟩

theorem dig_bit (R bit : Int) (hb0 : 0 ≤ bit) (hb1 : bit ≤ 1) : g0 (R + R) + bit = g0 (2 * R + bit) ∧ g1 (R + R) = g1 (2 * R + bit) ∧ g2 (R + R) = g2 (2 * R + bit) ∧ g3 (R + R) = g3 (2 * R + bit) := by
  unfold g0 g1 g2 g3; omega

theorem ret_two {a0 a1 a2 a3 b0 b1 b2 b3 a0' a1' a2' a3' b0' b1' b2' b3' : Int} (h0 : a0 = a0') (h1 : a1 = a1') (h2 : a2 = a2') (h3 : a3 = a3') (k0 : b0 = b0') (k1 : b1 = b1') (k2 : b2 = b2') (k3 : b3 = b3') : Ending.returned (.tuple #[.agg #[.int .u64 a0, .int .u64 a1, .int .u64 a2, .int .u64 a3], .agg #[.int .u64 b0, .int .u64 b1, .int .u64 b2, .int .u64 b3]]) = Ending.returned (.tuple #[.agg #[.int .u64 a0', .int .u64 a1', .int .u64 a2', .int .u64 a3'], .agg #[.int .u64 b0', .int .u64 b1', .int .u64 b2', .int .u64 b3']]) := by rw [h0, h1, h2, h3, k0, k1, k2, k3]

set_option maxRecDepth 100000 in
set_option maxHeartbeats 8000000 in
theorem rdiv_any (a b : Int) (w : World) (ha : 0 ≤ a) (ha' : a < 340282366920938463463374607431768211456) (hb : 0 < b) (hb' : b ≤ 170141183460469231731687303715884105728) :
    Calls Tryz.prog 176 #[.agg #[.int .u64 (g0 a), .int .u64 (g1 a), .int .u64 (g2 a), .int .u64 (g3 a)], .agg #[.int .u64 (g0 b), .int .u64 (g1 b), .int .u64 (g2 b), .int .u64 (g3 b)]] w fun e w' => e = .returned (.tuple #[.agg #[.int .u64 (g0 (a / b)), .int .u64 (g1 (a / b)), .int .u64 (g2 (a / b)), .int .u64 (g3 (a / b))], .agg #[.int .u64 (g0 (a % b)), .int .u64 (g1 (a % b)), .int .u64 (g2 (a % b)), .int .u64 (g3 (a % b))]]) ∧ Below w.heap.size w w' := by
  have z0 := g0_bd a
  have z1 := g1_bd a
  have z2 := g2_bd a
  have z3 := g3_bd a
  have y0 := g0_bd b
  have y1 := g1_bd b
  have y2 := g2_bd b
  have y3 := g3_bd b
  go_enter Tryz.func176, Tryz.ntmps176
  go_wp2
  go_loopw [8] (fun i wr => ∃ (k : Nat) (t0 t1 t2 t3 R : Int), k ≤ 128 ∧ 0 ≤ t0 ∧ t0 < 4294967296 ∧ 0 ≤ t1 ∧ t1 < 4294967296 ∧ 0 ≤ t2 ∧ t2 < 4294967296 ∧ 0 ≤ t3 ∧ t3 < 4294967296 ∧ Hid (Inv a b k t0 t1 t2 t3 R) ∧ (∃ i0 : Int, i0 = (k : Int) - 1 ∧ i = .int .i64 i0) ∧ Below w.heap.size w wr ∧ w.heap.size + 1 + 1 + 1 + 1 + 1 < wr.heap.size ∧ Blk wr (w.heap.size) (g0 (a)) (g1 (a)) (g2 (a)) (g3 (a)) ∧ Blk wr (w.heap.size + 1) (g0 (b)) (g1 (b)) (g2 (b)) (g3 (b)) ∧ Blk wr (w.heap.size + 1 + 1 + 1 + 1) (t0) (t1) (t2) (t3) ∧ Blk wr (w.heap.size + 1 + 1 + 1 + 1 + 1) (g0 (R)) (g1 (R)) (g2 (R)) (g3 (R)) ∧ Blk wr (w.heap.size + 1 + 1) (0) (0) (0) (0) ∧ Blk wr (w.heap.size + 1 + 1 + 1) (0) (0) (0) (0)) (fun i _ => (intOf i + 1).toNat)
  case atStart =>
    refine ⟨128, 0, 0, 0, 0, 0, by omega, by omega, by omega, by omega, by omega, by omega, by omega, by omega, by omega, inv_start a b ha ha', ⟨127, by decide, rfl⟩, by go_grown, by go_size, ?_, ?_, ?_, ?_, ?_, ?_⟩
    all_goals (constructor <;> simp (maxDischargeDepth := 12) [go_sem, show g0 0 = 0 by decide, show g1 0 = 0 by decide, show g2 0 = 0 by decide, show g3 0 = 0 by decide])
  case round =>
    obtain ⟨k, t0, t1, t2, t3, R, hk, p0, q0, p1, q1, p2, q2, p3, q3, hI, ⟨i0, hi0, rfl⟩, hBw, hsz, kA, kB, kT, kR, kX, kY⟩ := hrel
    by_cases hk0 : k = 0
    · subst hk0
      have hi1 : i0 < 0 := by omega
      have hi2 : (0 ≤ i0) = False := by simp; omega
      clear hi0
      obtain ⟨t0', t1', t2', t3'⟩ : Hid (g0 (a / b) = t0) ∧ Hid (g1 (a / b) = t1) ∧ Hid (g2 (a / b) = t2) ∧ Hid (g3 (a / b) = t3) := by
        have e := hI.out.times
        simp at e
        have := g_of t0 t1 t2 t3 ⟨p0, by omega⟩ ⟨p1, by omega⟩ ⟨p2, by omega⟩ ⟨p3, by omega⟩
        rw [e] at this; exact this
      have eR : Hid (R = a % b) := by have e := hI.out.rest; simp at e; exact e
      have kXX := kX
      obtain ⟨kX0, kX1, kX2, kX3, kX4, kX5, kX6, kX7⟩ := kX
      have kYY := kY
      obtain ⟨kY0, kY1, kY2, kY3, kY4, kY5, kY6, kY7⟩ := kY
      obtain ⟨kT0, kT1, kT2, kT3, -, -, -, -⟩ := kT
      obtain ⟨kR0, kR1, kR2, kR3, -, -, -, -⟩ := kR
      clear hI
      go_wp2
      go_region
      generalize hW : World.drew _ = W9
      have kX' : Blk W9 (w.heap.size + 1 + 1) t0 t1 t2 t3 := by rw [← hW]; exact ((kXX.four t0 t1 t2 t3).other4 (by omega)).drew
      have kY' : Blk W9 (w.heap.size + 1 + 1 + 1) (g0 R) (g1 R) (g2 R) (g3 R) := by rw [← hW]; exact ((kYY.other4 (by omega)).four _ _ _ _).drew
      have hB9 : Below w.heap.size w W9 := by rw [← hW]; repeat' (first | (with_reducible exact Below.refl _ _) | (with_reducible assumption) | (with_reducible refine bdrewN _ ?_) | (with_reducible refine Below.alloc ?_ ?_ _) | (with_reducible refine Below.setCell ?_ ?_ _) | (with_reducible refine Below.drew ?_) | go_size | (simp; omega))
      clear hW
      obtain ⟨x0, x1, x2, x3, -, -, -, -⟩ := kX'
      obtain ⟨x4, x5, x6, x7, -, -, -, -⟩ := kY'
      go_wp2
      refine bodyPost_ret (by simp [results, Tryz.results176, go_sem, x0, x1, x2, x3, x4, x5, x6, x7]; try rfl) rfl ?_
      exact ⟨ret_two t0'.out.symm t1'.out.symm t2'.out.symm t3'.out.symm (by rw [eR.out]) (by rw [eR.out]) (by rw [eR.out]) (by rw [eR.out]), hB9⟩
    · have hR : R = a / 2 ^ k % b := hI.out.rest
      have hR0 : 0 ≤ R := by rw [hR]; exact Int.emod_nonneg _ (by omega)
      have hR1 : R < b := by rw [hR]; exact Int.emod_lt_of_pos _ hb
      clear hR
      have hi1 : 0 ≤ i0 := by omega
      have hi3 : i0 ≤ 127 := by omega
      obtain ⟨s, hs, hks⟩ : ∃ s : Nat, s < 32 ∧ (k = 0 + s + 1 ∨ k = 32 + s + 1 ∨ k = 64 + s + 1 ∨ k = 96 + s + 1) := ⟨(k - 1) % 32, by omega, by omega⟩
      have hs' : (s : Int) < 32 := by omega
      have hp1 := pow_pos_i s
      have hp2 : (2 : Int) ^ s ≤ 2147483648 := by
        have : (2 : Int) ^ s * 2 ^ (31 - s) = 2147483648 := by rw [← Int.pow_add, show s + (31 - s) = 31 by omega]; rfl
        have h2 : (1 : Int) ≤ 2 ^ (31 - s) := pow_pos_i _
        have h3 : (2 : Int) ^ s * 1 ≤ 2 ^ s * 2 ^ (31 - s) := Int.mul_le_mul_of_nonneg_left h2 (by omega)
        omega
      rcases hks with rfl | rfl | rfl | rfl
      · obtain ⟨st1, st2⟩ := inv_step0 a b t0 t1 t2 t3 R s hs hb p0 q0 hI.out
        obtain ⟨bit, eB⟩ : ∃ bit : Int, g0 a / 2 ^ s % 2 = bit := ⟨_, rfl⟩
        have hb0 : 0 ≤ bit := by omega
        have hb1 : bit ≤ 1 := by omega
        obtain ⟨X, hX⟩ : ∃ X : Int, 2 * R + bit = X := ⟨_, rfl⟩
        have hX0 : 0 ≤ X := by omega
        have hX1 : X < 340282366920938463463374607431768211456 := by omega
        rw [eB, hX] at st1 st2
        have e1 : i0 / 32 = 0 := by omega
        have e3 : i0 % 32 = (s : Int) := by omega
        have e2 : IntKind.i64.wrap (i0.tdiv 32) = 0 := by rw [Int.tdiv_eq_ediv_of_nonneg hi1, e1]; rfl
        have e4 : IntKind.i64.wrap (i0.tmod 32) = (s : Int) := by rw [Int.tmod_eq_emod_of_nonneg hi1, e3]; go_arith
        obtain ⟨d0, d1, d2, d3⟩ := dig_bit R bit hb0 hb1
        rw [hX] at d0 d1 d2 d3
        have HB : Hid (i0 = (0 + s + 1 : Nat) - 1) := hi0
        clear hi0
        have K : Hid (Blk wr (w.heap.size) (g0 (a)) (g1 (a)) (g2 (a)) (g3 (a)) ∧ Blk wr (w.heap.size + 1) (g0 (b)) (g1 (b)) (g2 (b)) (g3 (b)) ∧ Blk wr (w.heap.size + 1 + 1 + 1 + 1) t0 t1 t2 t3 ∧ Blk wr (w.heap.size + 1 + 1) 0 0 0 0 ∧ Blk wr (w.heap.size + 1 + 1 + 1) 0 0 0 0) := ⟨kA, kB, kT, kX, kY⟩
        clear kA kB kT kX kY
        obtain ⟨kR0, kR1, kR2, kR3, kR4, kR5, kR6, kR7⟩ := kR
        go_wp2_with fail
        refine (rplus_any R R _ hR0 hR0 (by omega)).mono ?_
        rintro e w1 ⟨rfl, hb1⟩
        obtain ⟨n0, n1, n2, n3⟩ := (⟨bcl2 hb1 kR0 (by simp; omega), bcl2 hb1 kR1 (by simp; omega), bcl2 hb1 kR2 (by simp; omega), bcl2 hb1 kR3 (by simp; omega)⟩ : w1.cell? ⟨w.heap.size + 1 + 1 + 1 + 1 + 1, 0, none⟩ = some (.int .u64 (g0 R)) ∧ w1.cell? ⟨w.heap.size + 1 + 1 + 1 + 1 + 1, 1, none⟩ = some (.int .u64 (g1 R)) ∧ w1.cell? ⟨w.heap.size + 1 + 1 + 1 + 1 + 1, 2, none⟩ = some (.int .u64 (g2 R)) ∧ w1.cell? ⟨w.heap.size + 1 + 1 + 1 + 1 + 1, 3, none⟩ = some (.int .u64 (g3 R)))
        obtain ⟨f0, f1, f2, f3⟩ := (⟨bfr2 hb1 kR4 (by simp; omega), bfr2 hb1 kR5 (by simp; omega), bfr2 hb1 kR6 (by simp; omega), bfr2 hb1 kR7 (by simp; omega)⟩ : w1.frozen? ⟨w.heap.size + 1 + 1 + 1 + 1 + 1, 0, none⟩ = false ∧ w1.frozen? ⟨w.heap.size + 1 + 1 + 1 + 1 + 1, 1, none⟩ = false ∧ w1.frozen? ⟨w.heap.size + 1 + 1 + 1 + 1 + 1, 2, none⟩ = false ∧ w1.frozen? ⟨w.heap.size + 1 + 1 + 1 + 1 + 1, 3, none⟩ = false)
        go_wp2_with fail
        refine wp_world ?_
        intro W1 hW1
        have K1 : Blk W1 (w.heap.size) (g0 (a)) (g1 (a)) (g2 (a)) (g3 (a)) ∧ Blk W1 (w.heap.size + 1) (g0 (b)) (g1 (b)) (g2 (b)) (g3 (b)) ∧ Blk W1 (w.heap.size + 1 + 1 + 1 + 1) t0 t1 t2 t3 ∧ Blk W1 (w.heap.size + 1 + 1) 0 0 0 0 ∧ Blk W1 (w.heap.size + 1 + 1 + 1) 0 0 0 0 := by
          obtain ⟨u1, u2, u3, u4, u5⟩ := K.out
          rw [hW1]
          exact ⟨(u1.below hb1 (by omega)).other4 (by omega), (u2.below hb1 (by omega)).other4 (by omega), (u3.below hb1 (by omega)).other4 (by omega), (u4.below hb1 (by omega)).other4 (by omega), (u5.below hb1 (by omega)).other4 (by omega)⟩
        have K1R : Blk W1 (w.heap.size + 1 + 1 + 1 + 1 + 1) (g0 (R + R)) (g1 X) (g2 X) (g3 X) := by
          rw [hW1]; exact Blk.four ⟨n0, n1, n2, n3, f0, f1, f2, f3⟩ _ _ _ _
        have hB1 : Below w.heap.size w W1 := by
          have := hBw.trans (hb1.mono hBw.size)
          rw [hW1]; repeat' (first | (with_reducible exact Below.refl _ _) | (with_reducible assumption) | (with_reducible refine bdrewN _ ?_) | (with_reducible refine Below.alloc ?_ ?_ _) | (with_reducible refine Below.setCell ?_ ?_ _) | (with_reducible refine Below.drew ?_) | go_size | (simp; omega))
        have hs1 : w.heap.size + 1 + 1 + 1 + 1 + 1 < W1.heap.size := by
          have := hb1.size
          rw [hW1]; simp; omega
        clear hW1 n0 n1 n2 n3 f0 f1 f2 f3 kR0 kR1 kR2 kR3 kR4 kR5 kR6 kR7 hb1 K hBw hsz
        have KK : Hid (Blk W1 (w.heap.size) (g0 (a)) (g1 (a)) (g2 (a)) (g3 (a)) ∧ Blk W1 (w.heap.size + 1) (g0 (b)) (g1 (b)) (g2 (b)) (g3 (b)) ∧ Blk W1 (w.heap.size + 1 + 1 + 1 + 1) t0 t1 t2 t3 ∧ Blk W1 (w.heap.size + 1 + 1) 0 0 0 0 ∧ Blk W1 (w.heap.size + 1 + 1 + 1) 0 0 0 0) := K1
        have KR : Hid (Blk W1 (w.heap.size + 1 + 1 + 1 + 1 + 1) (g0 (R + R)) (g1 X) (g2 X) (g3 X)) := K1R
        obtain ⟨⟨v0, v1, v2, v3, -, -, -, -⟩, -⟩ := K1
        obtain ⟨r0, -, -, -, r4, -, -, -⟩ := K1R
        go_region
        generalize hW : World.setCell _ _ _ = W2
        have ev : IntKind.u64.wrap (g0 (R + R) + (g0 a / 2 ^ s).tmod 2) = g0 X := by
          have e := g0_bd a
          have : 0 ≤ g0 a / 2 ^ s := Int.ediv_nonneg e.1 (by omega)
          rw [Int.tmod_eq_emod_of_nonneg this, eB, d0]
          have := g0_bd X
          rw [IntKind.wrap_u64]; omega
        have K2R : Blk W2 (w.heap.size + 1 + 1 + 1 + 1 + 1) (g0 X) (g1 X) (g2 X) (g3 X) := by
          rw [← hW, ev]; exact KR.out.set0 _
        have K2 : Hid (Blk W2 (w.heap.size) (g0 (a)) (g1 (a)) (g2 (a)) (g3 (a)) ∧ Blk W2 (w.heap.size + 1) (g0 (b)) (g1 (b)) (g2 (b)) (g3 (b)) ∧ Blk W2 (w.heap.size + 1 + 1 + 1 + 1) t0 t1 t2 t3 ∧ Blk W2 (w.heap.size + 1 + 1) 0 0 0 0 ∧ Blk W2 (w.heap.size + 1 + 1 + 1) 0 0 0 0) := by
          obtain ⟨u1, u2, u3, u4, u5⟩ := KK.out
          rw [← hW]
          exact ⟨u1.other (by omega), u2.other (by omega), u3.other (by omega), u4.other (by omega), u5.other (by omega)⟩
        have hB2 : Below w.heap.size w W2 := by rw [← hW]; repeat' (first | (with_reducible exact Below.refl _ _) | (with_reducible assumption) | (with_reducible refine bdrewN _ ?_) | (with_reducible refine Below.alloc ?_ ?_ _) | (with_reducible refine Below.setCell ?_ ?_ _) | (with_reducible refine Below.drew ?_) | go_size | (simp; omega))
        have hs2 : w.heap.size + 1 + 1 + 1 + 1 + 1 < W2.heap.size := by rw [← hW]; simp; omega
        clear hW ev KK KR hB1 hs1 v0 v1 v2 v3 r0 r4 d0 d1 d2 d3
        have KR : Hid (Blk W2 (w.heap.size + 1 + 1 + 1 + 1 + 1) (g0 X) (g1 X) (g2 X) (g3 X)) := K2R
        obtain ⟨r0, r1, r2, r3, r4, r5, r6, r7⟩ := K2R
        obtain ⟨l0, l1, l2, l3, -, -, -, -⟩ := K2.out.2.1
        obtain ⟨c, ec⟩ : ∃ c : Int, Hid (cmpI X b = c) := ⟨_, rfl⟩
        by_cases hc : b ≤ X
        · have hc0 : 0 ≤ c := by rw [← ec.out]; unfold cmpI; split <;> (try split) <;> omega
          obtain ⟨y1, y2⟩ := st1 hc
          clear st1 st2
          go_wp2_with fail
          refine (rcompare_any X b _ hX0 hX1 (by omega) (by omega)).mono ?_
          rintro e w3 ⟨rfl, hb3⟩
          rw [ec.out]
          have hH : W2.drew.heap.size = W2.heap.size := rfl
          rw [hH] at hb3
          have hb4 : Below W2.heap.size W2 w3 := ⟨hb3.os, hb3.tape, hb3.output, hb3.size, hb3.block⟩
          have hB3 := hB2.trans (hb4.mono hB2.size)
          have hs3 := hb4.size
          have hs4 : w.heap.size + 1 + 1 + 1 + 1 + 1 < w3.heap.size := by omega
          have K3 : Hid (Blk w3 (w.heap.size) (g0 (a)) (g1 (a)) (g2 (a)) (g3 (a)) ∧ Blk w3 (w.heap.size + 1) (g0 (b)) (g1 (b)) (g2 (b)) (g3 (b)) ∧ Blk w3 (w.heap.size + 1 + 1 + 1 + 1) t0 t1 t2 t3 ∧ Blk w3 (w.heap.size + 1 + 1) 0 0 0 0 ∧ Blk w3 (w.heap.size + 1 + 1 + 1) 0 0 0 0) := by
            obtain ⟨u1, u2, u3, u4, u5⟩ := K2.out
            exact ⟨u1.below hb4 (by omega), u2.below hb4 (by omega), u3.below hb4 (by omega), u4.below hb4 (by omega), u5.below hb4 (by omega)⟩
          have K3R : Hid (Blk w3 (w.heap.size + 1 + 1 + 1 + 1 + 1) (g0 X) (g1 X) (g2 X) (g3 X)) := KR.out.below hb4 (by omega)
          clear hb3 hb4 hs3 hs2 hB2 K2 KR r0 r1 r2 r3 r4 r5 r6 r7 l0 l1 l2 l3 hH
          obtain ⟨r0, r1, r2, r3, -, -, -, -⟩ := K3R.out
          obtain ⟨l0, l1, l2, l3, -, -, -, -⟩ := K3.out.2.1
          go_wp2_with fail
          refine (rless_any X b _ (by omega) hc hX1).mono ?_
          rintro e w4 ⟨rfl, hb5⟩
          have hB4 := hB3.trans (hb5.mono hB3.size)
          have hs5 := hb5.size
          have K4 : Hid (Blk w4 (w.heap.size) (g0 (a)) (g1 (a)) (g2 (a)) (g3 (a)) ∧ Blk w4 (w.heap.size + 1) (g0 (b)) (g1 (b)) (g2 (b)) (g3 (b)) ∧ Blk w4 (w.heap.size + 1 + 1 + 1 + 1) t0 t1 t2 t3 ∧ Blk w4 (w.heap.size + 1 + 1) 0 0 0 0 ∧ Blk w4 (w.heap.size + 1 + 1 + 1) 0 0 0 0) := by
            obtain ⟨u1, u2, u3, u4, u5⟩ := K3.out
            exact ⟨u1.below hb5 (by omega), u2.below hb5 (by omega), u3.below hb5 (by omega), u4.below hb5 (by omega), u5.below hb5 (by omega)⟩
          have K4R : Hid (Blk w4 (w.heap.size + 1 + 1 + 1 + 1 + 1) (g0 X) (g1 X) (g2 X) (g3 X)) := K3R.out.below hb5 (by omega)
          have hs6 : w.heap.size + 1 + 1 + 1 + 1 + 1 < w4.heap.size := by omega
          clear hb5 hs5 hs4 hB3 K3 K3R r0 r1 r2 r3 l0 l1 l2 l3
          obtain ⟨r0, r1, r2, r3, r4, r5, r6, r7⟩ := K4R.out
          obtain ⟨l0, l1, l2, l3, l4, l5, l6, l7⟩ := K4.out.2.2.1
          obtain ⟨u1, u2, u3, u4, u5⟩ := K4.out
          have u6 := K4R.out
          go_wp2
          exact ⟨⟨0 + s, (t0 + 2 ^ s), t1, t2, t3, X - b, by omega, (by omega), y1, p1, q1, p2, q2, p3, q3, y2, ⟨i0 - 1, by have := HB.out; omega, rfl⟩, (by repeat' (first | (with_reducible exact Below.refl _ _) | (with_reducible assumption) | (with_reducible refine bdrewN _ ?_) | (with_reducible refine Below.alloc ?_ ?_ _) | (with_reducible refine Below.setCell ?_ ?_ _) | (with_reducible refine Below.drew ?_) | go_size | (simp; omega))), by simp; omega, (u1.other4 (by omega)).other (by omega), (u2.other4 (by omega)).other (by omega), (u3.other4 (by omega)).set0 _, (u6.four _ _ _ _).other (by omega), (u4.other4 (by omega)).other (by omega), (u5.other4 (by omega)).other (by omega)⟩, by simp [intOf]; omega⟩
        · have hc0 : (0 ≤ c) = False := by simp; rw [← ec.out]; unfold cmpI; split <;> (try split) <;> omega
          have hc1 : c < 0 := by simpa using hc0
          have y2 := st2 (by omega)
          clear st1 st2
          go_wp2_with fail
          refine (rcompare_any X b _ hX0 hX1 (by omega) (by omega)).mono ?_
          rintro e w3 ⟨rfl, hb3⟩
          rw [ec.out]
          obtain ⟨u1, u2, u3, u4, u5⟩ := K2.out
          have u6 := KR.out
          have hH : W2.drew.heap.size = W2.heap.size := rfl
          rw [hH] at hb3
          have hb4 : Below W2.heap.size W2 w3 := ⟨hb3.os, hb3.tape, hb3.output, hb3.size, hb3.block⟩
          have hB3 := hB2.trans (hb4.mono hB2.size)
          have hs3 := hb4.size
          go_wp2
          exact ⟨⟨0 + s, t0, t1, t2, t3, X, by omega, p0, q0, p1, q1, p2, q2, p3, q3, y2, ⟨i0 - 1, by have := HB.out; omega, rfl⟩, hB3, by omega, u1.below hb4 (by omega), u2.below hb4 (by omega), u3.below hb4 (by omega), u6.below hb4 (by omega), u4.below hb4 (by omega), u5.below hb4 (by omega)⟩, by simp [intOf]; omega⟩
      · obtain ⟨st1, st2⟩ := inv_step1 a b t0 t1 t2 t3 R s hs hb p1 q1 hI.out
        obtain ⟨bit, eB⟩ : ∃ bit : Int, g1 a / 2 ^ s % 2 = bit := ⟨_, rfl⟩
        have hb0 : 0 ≤ bit := by omega
        have hb1 : bit ≤ 1 := by omega
        obtain ⟨X, hX⟩ : ∃ X : Int, 2 * R + bit = X := ⟨_, rfl⟩
        have hX0 : 0 ≤ X := by omega
        have hX1 : X < 340282366920938463463374607431768211456 := by omega
        rw [eB, hX] at st1 st2
        have e1 : i0 / 32 = 1 := by omega
        have e3 : i0 % 32 = (s : Int) := by omega
        have e2 : IntKind.i64.wrap (i0.tdiv 32) = 1 := by rw [Int.tdiv_eq_ediv_of_nonneg hi1, e1]; rfl
        have e4 : IntKind.i64.wrap (i0.tmod 32) = (s : Int) := by rw [Int.tmod_eq_emod_of_nonneg hi1, e3]; go_arith
        obtain ⟨d0, d1, d2, d3⟩ := dig_bit R bit hb0 hb1
        rw [hX] at d0 d1 d2 d3
        have HB : Hid (i0 = (32 + s + 1 : Nat) - 1) := hi0
        clear hi0
        have K : Hid (Blk wr (w.heap.size) (g0 (a)) (g1 (a)) (g2 (a)) (g3 (a)) ∧ Blk wr (w.heap.size + 1) (g0 (b)) (g1 (b)) (g2 (b)) (g3 (b)) ∧ Blk wr (w.heap.size + 1 + 1 + 1 + 1) t0 t1 t2 t3 ∧ Blk wr (w.heap.size + 1 + 1) 0 0 0 0 ∧ Blk wr (w.heap.size + 1 + 1 + 1) 0 0 0 0) := ⟨kA, kB, kT, kX, kY⟩
        clear kA kB kT kX kY
        obtain ⟨kR0, kR1, kR2, kR3, kR4, kR5, kR6, kR7⟩ := kR
        go_wp2_with fail
        refine (rplus_any R R _ hR0 hR0 (by omega)).mono ?_
        rintro e w1 ⟨rfl, hb1⟩
        obtain ⟨n0, n1, n2, n3⟩ := (⟨bcl2 hb1 kR0 (by simp; omega), bcl2 hb1 kR1 (by simp; omega), bcl2 hb1 kR2 (by simp; omega), bcl2 hb1 kR3 (by simp; omega)⟩ : w1.cell? ⟨w.heap.size + 1 + 1 + 1 + 1 + 1, 0, none⟩ = some (.int .u64 (g0 R)) ∧ w1.cell? ⟨w.heap.size + 1 + 1 + 1 + 1 + 1, 1, none⟩ = some (.int .u64 (g1 R)) ∧ w1.cell? ⟨w.heap.size + 1 + 1 + 1 + 1 + 1, 2, none⟩ = some (.int .u64 (g2 R)) ∧ w1.cell? ⟨w.heap.size + 1 + 1 + 1 + 1 + 1, 3, none⟩ = some (.int .u64 (g3 R)))
        obtain ⟨f0, f1, f2, f3⟩ := (⟨bfr2 hb1 kR4 (by simp; omega), bfr2 hb1 kR5 (by simp; omega), bfr2 hb1 kR6 (by simp; omega), bfr2 hb1 kR7 (by simp; omega)⟩ : w1.frozen? ⟨w.heap.size + 1 + 1 + 1 + 1 + 1, 0, none⟩ = false ∧ w1.frozen? ⟨w.heap.size + 1 + 1 + 1 + 1 + 1, 1, none⟩ = false ∧ w1.frozen? ⟨w.heap.size + 1 + 1 + 1 + 1 + 1, 2, none⟩ = false ∧ w1.frozen? ⟨w.heap.size + 1 + 1 + 1 + 1 + 1, 3, none⟩ = false)
        go_wp2_with fail
        refine wp_world ?_
        intro W1 hW1
        have K1 : Blk W1 (w.heap.size) (g0 (a)) (g1 (a)) (g2 (a)) (g3 (a)) ∧ Blk W1 (w.heap.size + 1) (g0 (b)) (g1 (b)) (g2 (b)) (g3 (b)) ∧ Blk W1 (w.heap.size + 1 + 1 + 1 + 1) t0 t1 t2 t3 ∧ Blk W1 (w.heap.size + 1 + 1) 0 0 0 0 ∧ Blk W1 (w.heap.size + 1 + 1 + 1) 0 0 0 0 := by
          obtain ⟨u1, u2, u3, u4, u5⟩ := K.out
          rw [hW1]
          exact ⟨(u1.below hb1 (by omega)).other4 (by omega), (u2.below hb1 (by omega)).other4 (by omega), (u3.below hb1 (by omega)).other4 (by omega), (u4.below hb1 (by omega)).other4 (by omega), (u5.below hb1 (by omega)).other4 (by omega)⟩
        have K1R : Blk W1 (w.heap.size + 1 + 1 + 1 + 1 + 1) (g0 (R + R)) (g1 X) (g2 X) (g3 X) := by
          rw [hW1]; exact Blk.four ⟨n0, n1, n2, n3, f0, f1, f2, f3⟩ _ _ _ _
        have hB1 : Below w.heap.size w W1 := by
          have := hBw.trans (hb1.mono hBw.size)
          rw [hW1]; repeat' (first | (with_reducible exact Below.refl _ _) | (with_reducible assumption) | (with_reducible refine bdrewN _ ?_) | (with_reducible refine Below.alloc ?_ ?_ _) | (with_reducible refine Below.setCell ?_ ?_ _) | (with_reducible refine Below.drew ?_) | go_size | (simp; omega))
        have hs1 : w.heap.size + 1 + 1 + 1 + 1 + 1 < W1.heap.size := by
          have := hb1.size
          rw [hW1]; simp; omega
        clear hW1 n0 n1 n2 n3 f0 f1 f2 f3 kR0 kR1 kR2 kR3 kR4 kR5 kR6 kR7 hb1 K hBw hsz
        have KK : Hid (Blk W1 (w.heap.size) (g0 (a)) (g1 (a)) (g2 (a)) (g3 (a)) ∧ Blk W1 (w.heap.size + 1) (g0 (b)) (g1 (b)) (g2 (b)) (g3 (b)) ∧ Blk W1 (w.heap.size + 1 + 1 + 1 + 1) t0 t1 t2 t3 ∧ Blk W1 (w.heap.size + 1 + 1) 0 0 0 0 ∧ Blk W1 (w.heap.size + 1 + 1 + 1) 0 0 0 0) := K1
        have KR : Hid (Blk W1 (w.heap.size + 1 + 1 + 1 + 1 + 1) (g0 (R + R)) (g1 X) (g2 X) (g3 X)) := K1R
        obtain ⟨⟨v0, v1, v2, v3, -, -, -, -⟩, -⟩ := K1
        obtain ⟨r0, -, -, -, r4, -, -, -⟩ := K1R
        go_region
        generalize hW : World.setCell _ _ _ = W2
        have ev : IntKind.u64.wrap (g0 (R + R) + (g1 a / 2 ^ s).tmod 2) = g0 X := by
          have e := g1_bd a
          have : 0 ≤ g1 a / 2 ^ s := Int.ediv_nonneg e.1 (by omega)
          rw [Int.tmod_eq_emod_of_nonneg this, eB, d0]
          have := g0_bd X
          rw [IntKind.wrap_u64]; omega
        have K2R : Blk W2 (w.heap.size + 1 + 1 + 1 + 1 + 1) (g0 X) (g1 X) (g2 X) (g3 X) := by
          rw [← hW, ev]; exact KR.out.set0 _
        have K2 : Hid (Blk W2 (w.heap.size) (g0 (a)) (g1 (a)) (g2 (a)) (g3 (a)) ∧ Blk W2 (w.heap.size + 1) (g0 (b)) (g1 (b)) (g2 (b)) (g3 (b)) ∧ Blk W2 (w.heap.size + 1 + 1 + 1 + 1) t0 t1 t2 t3 ∧ Blk W2 (w.heap.size + 1 + 1) 0 0 0 0 ∧ Blk W2 (w.heap.size + 1 + 1 + 1) 0 0 0 0) := by
          obtain ⟨u1, u2, u3, u4, u5⟩ := KK.out
          rw [← hW]
          exact ⟨u1.other (by omega), u2.other (by omega), u3.other (by omega), u4.other (by omega), u5.other (by omega)⟩
        have hB2 : Below w.heap.size w W2 := by rw [← hW]; repeat' (first | (with_reducible exact Below.refl _ _) | (with_reducible assumption) | (with_reducible refine bdrewN _ ?_) | (with_reducible refine Below.alloc ?_ ?_ _) | (with_reducible refine Below.setCell ?_ ?_ _) | (with_reducible refine Below.drew ?_) | go_size | (simp; omega))
        have hs2 : w.heap.size + 1 + 1 + 1 + 1 + 1 < W2.heap.size := by rw [← hW]; simp; omega
        clear hW ev KK KR hB1 hs1 v0 v1 v2 v3 r0 r4 d0 d1 d2 d3
        have KR : Hid (Blk W2 (w.heap.size + 1 + 1 + 1 + 1 + 1) (g0 X) (g1 X) (g2 X) (g3 X)) := K2R
        obtain ⟨r0, r1, r2, r3, r4, r5, r6, r7⟩ := K2R
        obtain ⟨l0, l1, l2, l3, -, -, -, -⟩ := K2.out.2.1
        obtain ⟨c, ec⟩ : ∃ c : Int, Hid (cmpI X b = c) := ⟨_, rfl⟩
        by_cases hc : b ≤ X
        · have hc0 : 0 ≤ c := by rw [← ec.out]; unfold cmpI; split <;> (try split) <;> omega
          obtain ⟨y1, y2⟩ := st1 hc
          clear st1 st2
          go_wp2_with fail
          refine (rcompare_any X b _ hX0 hX1 (by omega) (by omega)).mono ?_
          rintro e w3 ⟨rfl, hb3⟩
          rw [ec.out]
          have hH : W2.drew.heap.size = W2.heap.size := rfl
          rw [hH] at hb3
          have hb4 : Below W2.heap.size W2 w3 := ⟨hb3.os, hb3.tape, hb3.output, hb3.size, hb3.block⟩
          have hB3 := hB2.trans (hb4.mono hB2.size)
          have hs3 := hb4.size
          have hs4 : w.heap.size + 1 + 1 + 1 + 1 + 1 < w3.heap.size := by omega
          have K3 : Hid (Blk w3 (w.heap.size) (g0 (a)) (g1 (a)) (g2 (a)) (g3 (a)) ∧ Blk w3 (w.heap.size + 1) (g0 (b)) (g1 (b)) (g2 (b)) (g3 (b)) ∧ Blk w3 (w.heap.size + 1 + 1 + 1 + 1) t0 t1 t2 t3 ∧ Blk w3 (w.heap.size + 1 + 1) 0 0 0 0 ∧ Blk w3 (w.heap.size + 1 + 1 + 1) 0 0 0 0) := by
            obtain ⟨u1, u2, u3, u4, u5⟩ := K2.out
            exact ⟨u1.below hb4 (by omega), u2.below hb4 (by omega), u3.below hb4 (by omega), u4.below hb4 (by omega), u5.below hb4 (by omega)⟩
          have K3R : Hid (Blk w3 (w.heap.size + 1 + 1 + 1 + 1 + 1) (g0 X) (g1 X) (g2 X) (g3 X)) := KR.out.below hb4 (by omega)
          clear hb3 hb4 hs3 hs2 hB2 K2 KR r0 r1 r2 r3 r4 r5 r6 r7 l0 l1 l2 l3 hH
          obtain ⟨r0, r1, r2, r3, -, -, -, -⟩ := K3R.out
          obtain ⟨l0, l1, l2, l3, -, -, -, -⟩ := K3.out.2.1
          go_wp2_with fail
          refine (rless_any X b _ (by omega) hc hX1).mono ?_
          rintro e w4 ⟨rfl, hb5⟩
          have hB4 := hB3.trans (hb5.mono hB3.size)
          have hs5 := hb5.size
          have K4 : Hid (Blk w4 (w.heap.size) (g0 (a)) (g1 (a)) (g2 (a)) (g3 (a)) ∧ Blk w4 (w.heap.size + 1) (g0 (b)) (g1 (b)) (g2 (b)) (g3 (b)) ∧ Blk w4 (w.heap.size + 1 + 1 + 1 + 1) t0 t1 t2 t3 ∧ Blk w4 (w.heap.size + 1 + 1) 0 0 0 0 ∧ Blk w4 (w.heap.size + 1 + 1 + 1) 0 0 0 0) := by
            obtain ⟨u1, u2, u3, u4, u5⟩ := K3.out
            exact ⟨u1.below hb5 (by omega), u2.below hb5 (by omega), u3.below hb5 (by omega), u4.below hb5 (by omega), u5.below hb5 (by omega)⟩
          have K4R : Hid (Blk w4 (w.heap.size + 1 + 1 + 1 + 1 + 1) (g0 X) (g1 X) (g2 X) (g3 X)) := K3R.out.below hb5 (by omega)
          have hs6 : w.heap.size + 1 + 1 + 1 + 1 + 1 < w4.heap.size := by omega
          clear hb5 hs5 hs4 hB3 K3 K3R r0 r1 r2 r3 l0 l1 l2 l3
          obtain ⟨r0, r1, r2, r3, r4, r5, r6, r7⟩ := K4R.out
          obtain ⟨l0, l1, l2, l3, l4, l5, l6, l7⟩ := K4.out.2.2.1
          obtain ⟨u1, u2, u3, u4, u5⟩ := K4.out
          have u6 := K4R.out
          go_wp2
          exact ⟨⟨32 + s, t0, (t1 + 2 ^ s), t2, t3, X - b, by omega, p0, q0, (by omega), y1, p2, q2, p3, q3, y2, ⟨i0 - 1, by have := HB.out; omega, rfl⟩, (by repeat' (first | (with_reducible exact Below.refl _ _) | (with_reducible assumption) | (with_reducible refine bdrewN _ ?_) | (with_reducible refine Below.alloc ?_ ?_ _) | (with_reducible refine Below.setCell ?_ ?_ _) | (with_reducible refine Below.drew ?_) | go_size | (simp; omega))), by simp; omega, (u1.other4 (by omega)).other (by omega), (u2.other4 (by omega)).other (by omega), (u3.other4 (by omega)).set1 _, (u6.four _ _ _ _).other (by omega), (u4.other4 (by omega)).other (by omega), (u5.other4 (by omega)).other (by omega)⟩, by simp [intOf]; omega⟩
        · have hc0 : (0 ≤ c) = False := by simp; rw [← ec.out]; unfold cmpI; split <;> (try split) <;> omega
          have hc1 : c < 0 := by simpa using hc0
          have y2 := st2 (by omega)
          clear st1 st2
          go_wp2_with fail
          refine (rcompare_any X b _ hX0 hX1 (by omega) (by omega)).mono ?_
          rintro e w3 ⟨rfl, hb3⟩
          rw [ec.out]
          obtain ⟨u1, u2, u3, u4, u5⟩ := K2.out
          have u6 := KR.out
          have hH : W2.drew.heap.size = W2.heap.size := rfl
          rw [hH] at hb3
          have hb4 : Below W2.heap.size W2 w3 := ⟨hb3.os, hb3.tape, hb3.output, hb3.size, hb3.block⟩
          have hB3 := hB2.trans (hb4.mono hB2.size)
          have hs3 := hb4.size
          go_wp2
          exact ⟨⟨32 + s, t0, t1, t2, t3, X, by omega, p0, q0, p1, q1, p2, q2, p3, q3, y2, ⟨i0 - 1, by have := HB.out; omega, rfl⟩, hB3, by omega, u1.below hb4 (by omega), u2.below hb4 (by omega), u3.below hb4 (by omega), u6.below hb4 (by omega), u4.below hb4 (by omega), u5.below hb4 (by omega)⟩, by simp [intOf]; omega⟩
      · obtain ⟨st1, st2⟩ := inv_step2 a b t0 t1 t2 t3 R s hs hb p2 q2 hI.out
        obtain ⟨bit, eB⟩ : ∃ bit : Int, g2 a / 2 ^ s % 2 = bit := ⟨_, rfl⟩
        have hb0 : 0 ≤ bit := by omega
        have hb1 : bit ≤ 1 := by omega
        obtain ⟨X, hX⟩ : ∃ X : Int, 2 * R + bit = X := ⟨_, rfl⟩
        have hX0 : 0 ≤ X := by omega
        have hX1 : X < 340282366920938463463374607431768211456 := by omega
        rw [eB, hX] at st1 st2
        have e1 : i0 / 32 = 2 := by omega
        have e3 : i0 % 32 = (s : Int) := by omega
        have e2 : IntKind.i64.wrap (i0.tdiv 32) = 2 := by rw [Int.tdiv_eq_ediv_of_nonneg hi1, e1]; rfl
        have e4 : IntKind.i64.wrap (i0.tmod 32) = (s : Int) := by rw [Int.tmod_eq_emod_of_nonneg hi1, e3]; go_arith
        obtain ⟨d0, d1, d2, d3⟩ := dig_bit R bit hb0 hb1
        rw [hX] at d0 d1 d2 d3
        have HB : Hid (i0 = (64 + s + 1 : Nat) - 1) := hi0
        clear hi0
        have K : Hid (Blk wr (w.heap.size) (g0 (a)) (g1 (a)) (g2 (a)) (g3 (a)) ∧ Blk wr (w.heap.size + 1) (g0 (b)) (g1 (b)) (g2 (b)) (g3 (b)) ∧ Blk wr (w.heap.size + 1 + 1 + 1 + 1) t0 t1 t2 t3 ∧ Blk wr (w.heap.size + 1 + 1) 0 0 0 0 ∧ Blk wr (w.heap.size + 1 + 1 + 1) 0 0 0 0) := ⟨kA, kB, kT, kX, kY⟩
        clear kA kB kT kX kY
        obtain ⟨kR0, kR1, kR2, kR3, kR4, kR5, kR6, kR7⟩ := kR
        go_wp2_with fail
        refine (rplus_any R R _ hR0 hR0 (by omega)).mono ?_
        rintro e w1 ⟨rfl, hb1⟩
        obtain ⟨n0, n1, n2, n3⟩ := (⟨bcl2 hb1 kR0 (by simp; omega), bcl2 hb1 kR1 (by simp; omega), bcl2 hb1 kR2 (by simp; omega), bcl2 hb1 kR3 (by simp; omega)⟩ : w1.cell? ⟨w.heap.size + 1 + 1 + 1 + 1 + 1, 0, none⟩ = some (.int .u64 (g0 R)) ∧ w1.cell? ⟨w.heap.size + 1 + 1 + 1 + 1 + 1, 1, none⟩ = some (.int .u64 (g1 R)) ∧ w1.cell? ⟨w.heap.size + 1 + 1 + 1 + 1 + 1, 2, none⟩ = some (.int .u64 (g2 R)) ∧ w1.cell? ⟨w.heap.size + 1 + 1 + 1 + 1 + 1, 3, none⟩ = some (.int .u64 (g3 R)))
        obtain ⟨f0, f1, f2, f3⟩ := (⟨bfr2 hb1 kR4 (by simp; omega), bfr2 hb1 kR5 (by simp; omega), bfr2 hb1 kR6 (by simp; omega), bfr2 hb1 kR7 (by simp; omega)⟩ : w1.frozen? ⟨w.heap.size + 1 + 1 + 1 + 1 + 1, 0, none⟩ = false ∧ w1.frozen? ⟨w.heap.size + 1 + 1 + 1 + 1 + 1, 1, none⟩ = false ∧ w1.frozen? ⟨w.heap.size + 1 + 1 + 1 + 1 + 1, 2, none⟩ = false ∧ w1.frozen? ⟨w.heap.size + 1 + 1 + 1 + 1 + 1, 3, none⟩ = false)
        go_wp2_with fail
        refine wp_world ?_
        intro W1 hW1
        have K1 : Blk W1 (w.heap.size) (g0 (a)) (g1 (a)) (g2 (a)) (g3 (a)) ∧ Blk W1 (w.heap.size + 1) (g0 (b)) (g1 (b)) (g2 (b)) (g3 (b)) ∧ Blk W1 (w.heap.size + 1 + 1 + 1 + 1) t0 t1 t2 t3 ∧ Blk W1 (w.heap.size + 1 + 1) 0 0 0 0 ∧ Blk W1 (w.heap.size + 1 + 1 + 1) 0 0 0 0 := by
          obtain ⟨u1, u2, u3, u4, u5⟩ := K.out
          rw [hW1]
          exact ⟨(u1.below hb1 (by omega)).other4 (by omega), (u2.below hb1 (by omega)).other4 (by omega), (u3.below hb1 (by omega)).other4 (by omega), (u4.below hb1 (by omega)).other4 (by omega), (u5.below hb1 (by omega)).other4 (by omega)⟩
        have K1R : Blk W1 (w.heap.size + 1 + 1 + 1 + 1 + 1) (g0 (R + R)) (g1 X) (g2 X) (g3 X) := by
          rw [hW1]; exact Blk.four ⟨n0, n1, n2, n3, f0, f1, f2, f3⟩ _ _ _ _
        have hB1 : Below w.heap.size w W1 := by
          have := hBw.trans (hb1.mono hBw.size)
          rw [hW1]; repeat' (first | (with_reducible exact Below.refl _ _) | (with_reducible assumption) | (with_reducible refine bdrewN _ ?_) | (with_reducible refine Below.alloc ?_ ?_ _) | (with_reducible refine Below.setCell ?_ ?_ _) | (with_reducible refine Below.drew ?_) | go_size | (simp; omega))
        have hs1 : w.heap.size + 1 + 1 + 1 + 1 + 1 < W1.heap.size := by
          have := hb1.size
          rw [hW1]; simp; omega
        clear hW1 n0 n1 n2 n3 f0 f1 f2 f3 kR0 kR1 kR2 kR3 kR4 kR5 kR6 kR7 hb1 K hBw hsz
        have KK : Hid (Blk W1 (w.heap.size) (g0 (a)) (g1 (a)) (g2 (a)) (g3 (a)) ∧ Blk W1 (w.heap.size + 1) (g0 (b)) (g1 (b)) (g2 (b)) (g3 (b)) ∧ Blk W1 (w.heap.size + 1 + 1 + 1 + 1) t0 t1 t2 t3 ∧ Blk W1 (w.heap.size + 1 + 1) 0 0 0 0 ∧ Blk W1 (w.heap.size + 1 + 1 + 1) 0 0 0 0) := K1
        have KR : Hid (Blk W1 (w.heap.size + 1 + 1 + 1 + 1 + 1) (g0 (R + R)) (g1 X) (g2 X) (g3 X)) := K1R
        obtain ⟨⟨v0, v1, v2, v3, -, -, -, -⟩, -⟩ := K1
        obtain ⟨r0, -, -, -, r4, -, -, -⟩ := K1R
        go_region
        generalize hW : World.setCell _ _ _ = W2
        have ev : IntKind.u64.wrap (g0 (R + R) + (g2 a / 2 ^ s).tmod 2) = g0 X := by
          have e := g2_bd a
          have : 0 ≤ g2 a / 2 ^ s := Int.ediv_nonneg e.1 (by omega)
          rw [Int.tmod_eq_emod_of_nonneg this, eB, d0]
          have := g0_bd X
          rw [IntKind.wrap_u64]; omega
        have K2R : Blk W2 (w.heap.size + 1 + 1 + 1 + 1 + 1) (g0 X) (g1 X) (g2 X) (g3 X) := by
          rw [← hW, ev]; exact KR.out.set0 _
        have K2 : Hid (Blk W2 (w.heap.size) (g0 (a)) (g1 (a)) (g2 (a)) (g3 (a)) ∧ Blk W2 (w.heap.size + 1) (g0 (b)) (g1 (b)) (g2 (b)) (g3 (b)) ∧ Blk W2 (w.heap.size + 1 + 1 + 1 + 1) t0 t1 t2 t3 ∧ Blk W2 (w.heap.size + 1 + 1) 0 0 0 0 ∧ Blk W2 (w.heap.size + 1 + 1 + 1) 0 0 0 0) := by
          obtain ⟨u1, u2, u3, u4, u5⟩ := KK.out
          rw [← hW]
          exact ⟨u1.other (by omega), u2.other (by omega), u3.other (by omega), u4.other (by omega), u5.other (by omega)⟩
        have hB2 : Below w.heap.size w W2 := by rw [← hW]; repeat' (first | (with_reducible exact Below.refl _ _) | (with_reducible assumption) | (with_reducible refine bdrewN _ ?_) | (with_reducible refine Below.alloc ?_ ?_ _) | (with_reducible refine Below.setCell ?_ ?_ _) | (with_reducible refine Below.drew ?_) | go_size | (simp; omega))
        have hs2 : w.heap.size + 1 + 1 + 1 + 1 + 1 < W2.heap.size := by rw [← hW]; simp; omega
        clear hW ev KK KR hB1 hs1 v0 v1 v2 v3 r0 r4 d0 d1 d2 d3
        have KR : Hid (Blk W2 (w.heap.size + 1 + 1 + 1 + 1 + 1) (g0 X) (g1 X) (g2 X) (g3 X)) := K2R
        obtain ⟨r0, r1, r2, r3, r4, r5, r6, r7⟩ := K2R
        obtain ⟨l0, l1, l2, l3, -, -, -, -⟩ := K2.out.2.1
        obtain ⟨c, ec⟩ : ∃ c : Int, Hid (cmpI X b = c) := ⟨_, rfl⟩
        by_cases hc : b ≤ X
        · have hc0 : 0 ≤ c := by rw [← ec.out]; unfold cmpI; split <;> (try split) <;> omega
          obtain ⟨y1, y2⟩ := st1 hc
          clear st1 st2
          go_wp2_with fail
          refine (rcompare_any X b _ hX0 hX1 (by omega) (by omega)).mono ?_
          rintro e w3 ⟨rfl, hb3⟩
          rw [ec.out]
          have hH : W2.drew.heap.size = W2.heap.size := rfl
          rw [hH] at hb3
          have hb4 : Below W2.heap.size W2 w3 := ⟨hb3.os, hb3.tape, hb3.output, hb3.size, hb3.block⟩
          have hB3 := hB2.trans (hb4.mono hB2.size)
          have hs3 := hb4.size
          have hs4 : w.heap.size + 1 + 1 + 1 + 1 + 1 < w3.heap.size := by omega
          have K3 : Hid (Blk w3 (w.heap.size) (g0 (a)) (g1 (a)) (g2 (a)) (g3 (a)) ∧ Blk w3 (w.heap.size + 1) (g0 (b)) (g1 (b)) (g2 (b)) (g3 (b)) ∧ Blk w3 (w.heap.size + 1 + 1 + 1 + 1) t0 t1 t2 t3 ∧ Blk w3 (w.heap.size + 1 + 1) 0 0 0 0 ∧ Blk w3 (w.heap.size + 1 + 1 + 1) 0 0 0 0) := by
            obtain ⟨u1, u2, u3, u4, u5⟩ := K2.out
            exact ⟨u1.below hb4 (by omega), u2.below hb4 (by omega), u3.below hb4 (by omega), u4.below hb4 (by omega), u5.below hb4 (by omega)⟩
          have K3R : Hid (Blk w3 (w.heap.size + 1 + 1 + 1 + 1 + 1) (g0 X) (g1 X) (g2 X) (g3 X)) := KR.out.below hb4 (by omega)
          clear hb3 hb4 hs3 hs2 hB2 K2 KR r0 r1 r2 r3 r4 r5 r6 r7 l0 l1 l2 l3 hH
          obtain ⟨r0, r1, r2, r3, -, -, -, -⟩ := K3R.out
          obtain ⟨l0, l1, l2, l3, -, -, -, -⟩ := K3.out.2.1
          go_wp2_with fail
          refine (rless_any X b _ (by omega) hc hX1).mono ?_
          rintro e w4 ⟨rfl, hb5⟩
          have hB4 := hB3.trans (hb5.mono hB3.size)
          have hs5 := hb5.size
          have K4 : Hid (Blk w4 (w.heap.size) (g0 (a)) (g1 (a)) (g2 (a)) (g3 (a)) ∧ Blk w4 (w.heap.size + 1) (g0 (b)) (g1 (b)) (g2 (b)) (g3 (b)) ∧ Blk w4 (w.heap.size + 1 + 1 + 1 + 1) t0 t1 t2 t3 ∧ Blk w4 (w.heap.size + 1 + 1) 0 0 0 0 ∧ Blk w4 (w.heap.size + 1 + 1 + 1) 0 0 0 0) := by
            obtain ⟨u1, u2, u3, u4, u5⟩ := K3.out
            exact ⟨u1.below hb5 (by omega), u2.below hb5 (by omega), u3.below hb5 (by omega), u4.below hb5 (by omega), u5.below hb5 (by omega)⟩
          have K4R : Hid (Blk w4 (w.heap.size + 1 + 1 + 1 + 1 + 1) (g0 X) (g1 X) (g2 X) (g3 X)) := K3R.out.below hb5 (by omega)
          have hs6 : w.heap.size + 1 + 1 + 1 + 1 + 1 < w4.heap.size := by omega
          clear hb5 hs5 hs4 hB3 K3 K3R r0 r1 r2 r3 l0 l1 l2 l3
          obtain ⟨r0, r1, r2, r3, r4, r5, r6, r7⟩ := K4R.out
          obtain ⟨l0, l1, l2, l3, l4, l5, l6, l7⟩ := K4.out.2.2.1
          obtain ⟨u1, u2, u3, u4, u5⟩ := K4.out
          have u6 := K4R.out
          go_wp2
          exact ⟨⟨64 + s, t0, t1, (t2 + 2 ^ s), t3, X - b, by omega, p0, q0, p1, q1, (by omega), y1, p3, q3, y2, ⟨i0 - 1, by have := HB.out; omega, rfl⟩, (by repeat' (first | (with_reducible exact Below.refl _ _) | (with_reducible assumption) | (with_reducible refine bdrewN _ ?_) | (with_reducible refine Below.alloc ?_ ?_ _) | (with_reducible refine Below.setCell ?_ ?_ _) | (with_reducible refine Below.drew ?_) | go_size | (simp; omega))), by simp; omega, (u1.other4 (by omega)).other (by omega), (u2.other4 (by omega)).other (by omega), (u3.other4 (by omega)).set2 _, (u6.four _ _ _ _).other (by omega), (u4.other4 (by omega)).other (by omega), (u5.other4 (by omega)).other (by omega)⟩, by simp [intOf]; omega⟩
        · have hc0 : (0 ≤ c) = False := by simp; rw [← ec.out]; unfold cmpI; split <;> (try split) <;> omega
          have hc1 : c < 0 := by simpa using hc0
          have y2 := st2 (by omega)
          clear st1 st2
          go_wp2_with fail
          refine (rcompare_any X b _ hX0 hX1 (by omega) (by omega)).mono ?_
          rintro e w3 ⟨rfl, hb3⟩
          rw [ec.out]
          obtain ⟨u1, u2, u3, u4, u5⟩ := K2.out
          have u6 := KR.out
          have hH : W2.drew.heap.size = W2.heap.size := rfl
          rw [hH] at hb3
          have hb4 : Below W2.heap.size W2 w3 := ⟨hb3.os, hb3.tape, hb3.output, hb3.size, hb3.block⟩
          have hB3 := hB2.trans (hb4.mono hB2.size)
          have hs3 := hb4.size
          go_wp2
          exact ⟨⟨64 + s, t0, t1, t2, t3, X, by omega, p0, q0, p1, q1, p2, q2, p3, q3, y2, ⟨i0 - 1, by have := HB.out; omega, rfl⟩, hB3, by omega, u1.below hb4 (by omega), u2.below hb4 (by omega), u3.below hb4 (by omega), u6.below hb4 (by omega), u4.below hb4 (by omega), u5.below hb4 (by omega)⟩, by simp [intOf]; omega⟩
      · obtain ⟨st1, st2⟩ := inv_step3 a b t0 t1 t2 t3 R s hs hb p3 q3 hI.out
        obtain ⟨bit, eB⟩ : ∃ bit : Int, g3 a / 2 ^ s % 2 = bit := ⟨_, rfl⟩
        have hb0 : 0 ≤ bit := by omega
        have hb1 : bit ≤ 1 := by omega
        obtain ⟨X, hX⟩ : ∃ X : Int, 2 * R + bit = X := ⟨_, rfl⟩
        have hX0 : 0 ≤ X := by omega
        have hX1 : X < 340282366920938463463374607431768211456 := by omega
        rw [eB, hX] at st1 st2
        have e1 : i0 / 32 = 3 := by omega
        have e3 : i0 % 32 = (s : Int) := by omega
        have e2 : IntKind.i64.wrap (i0.tdiv 32) = 3 := by rw [Int.tdiv_eq_ediv_of_nonneg hi1, e1]; rfl
        have e4 : IntKind.i64.wrap (i0.tmod 32) = (s : Int) := by rw [Int.tmod_eq_emod_of_nonneg hi1, e3]; go_arith
        obtain ⟨d0, d1, d2, d3⟩ := dig_bit R bit hb0 hb1
        rw [hX] at d0 d1 d2 d3
        have HB : Hid (i0 = (96 + s + 1 : Nat) - 1) := hi0
        clear hi0
        have K : Hid (Blk wr (w.heap.size) (g0 (a)) (g1 (a)) (g2 (a)) (g3 (a)) ∧ Blk wr (w.heap.size + 1) (g0 (b)) (g1 (b)) (g2 (b)) (g3 (b)) ∧ Blk wr (w.heap.size + 1 + 1 + 1 + 1) t0 t1 t2 t3 ∧ Blk wr (w.heap.size + 1 + 1) 0 0 0 0 ∧ Blk wr (w.heap.size + 1 + 1 + 1) 0 0 0 0) := ⟨kA, kB, kT, kX, kY⟩
        clear kA kB kT kX kY
        obtain ⟨kR0, kR1, kR2, kR3, kR4, kR5, kR6, kR7⟩ := kR
        go_wp2_with fail
        refine (rplus_any R R _ hR0 hR0 (by omega)).mono ?_
        rintro e w1 ⟨rfl, hb1⟩
        obtain ⟨n0, n1, n2, n3⟩ := (⟨bcl2 hb1 kR0 (by simp; omega), bcl2 hb1 kR1 (by simp; omega), bcl2 hb1 kR2 (by simp; omega), bcl2 hb1 kR3 (by simp; omega)⟩ : w1.cell? ⟨w.heap.size + 1 + 1 + 1 + 1 + 1, 0, none⟩ = some (.int .u64 (g0 R)) ∧ w1.cell? ⟨w.heap.size + 1 + 1 + 1 + 1 + 1, 1, none⟩ = some (.int .u64 (g1 R)) ∧ w1.cell? ⟨w.heap.size + 1 + 1 + 1 + 1 + 1, 2, none⟩ = some (.int .u64 (g2 R)) ∧ w1.cell? ⟨w.heap.size + 1 + 1 + 1 + 1 + 1, 3, none⟩ = some (.int .u64 (g3 R)))
        obtain ⟨f0, f1, f2, f3⟩ := (⟨bfr2 hb1 kR4 (by simp; omega), bfr2 hb1 kR5 (by simp; omega), bfr2 hb1 kR6 (by simp; omega), bfr2 hb1 kR7 (by simp; omega)⟩ : w1.frozen? ⟨w.heap.size + 1 + 1 + 1 + 1 + 1, 0, none⟩ = false ∧ w1.frozen? ⟨w.heap.size + 1 + 1 + 1 + 1 + 1, 1, none⟩ = false ∧ w1.frozen? ⟨w.heap.size + 1 + 1 + 1 + 1 + 1, 2, none⟩ = false ∧ w1.frozen? ⟨w.heap.size + 1 + 1 + 1 + 1 + 1, 3, none⟩ = false)
        go_wp2_with fail
        refine wp_world ?_
        intro W1 hW1
        have K1 : Blk W1 (w.heap.size) (g0 (a)) (g1 (a)) (g2 (a)) (g3 (a)) ∧ Blk W1 (w.heap.size + 1) (g0 (b)) (g1 (b)) (g2 (b)) (g3 (b)) ∧ Blk W1 (w.heap.size + 1 + 1 + 1 + 1) t0 t1 t2 t3 ∧ Blk W1 (w.heap.size + 1 + 1) 0 0 0 0 ∧ Blk W1 (w.heap.size + 1 + 1 + 1) 0 0 0 0 := by
          obtain ⟨u1, u2, u3, u4, u5⟩ := K.out
          rw [hW1]
          exact ⟨(u1.below hb1 (by omega)).other4 (by omega), (u2.below hb1 (by omega)).other4 (by omega), (u3.below hb1 (by omega)).other4 (by omega), (u4.below hb1 (by omega)).other4 (by omega), (u5.below hb1 (by omega)).other4 (by omega)⟩
        have K1R : Blk W1 (w.heap.size + 1 + 1 + 1 + 1 + 1) (g0 (R + R)) (g1 X) (g2 X) (g3 X) := by
          rw [hW1]; exact Blk.four ⟨n0, n1, n2, n3, f0, f1, f2, f3⟩ _ _ _ _
        have hB1 : Below w.heap.size w W1 := by
          have := hBw.trans (hb1.mono hBw.size)
          rw [hW1]; repeat' (first | (with_reducible exact Below.refl _ _) | (with_reducible assumption) | (with_reducible refine bdrewN _ ?_) | (with_reducible refine Below.alloc ?_ ?_ _) | (with_reducible refine Below.setCell ?_ ?_ _) | (with_reducible refine Below.drew ?_) | go_size | (simp; omega))
        have hs1 : w.heap.size + 1 + 1 + 1 + 1 + 1 < W1.heap.size := by
          have := hb1.size
          rw [hW1]; simp; omega
        clear hW1 n0 n1 n2 n3 f0 f1 f2 f3 kR0 kR1 kR2 kR3 kR4 kR5 kR6 kR7 hb1 K hBw hsz
        have KK : Hid (Blk W1 (w.heap.size) (g0 (a)) (g1 (a)) (g2 (a)) (g3 (a)) ∧ Blk W1 (w.heap.size + 1) (g0 (b)) (g1 (b)) (g2 (b)) (g3 (b)) ∧ Blk W1 (w.heap.size + 1 + 1 + 1 + 1) t0 t1 t2 t3 ∧ Blk W1 (w.heap.size + 1 + 1) 0 0 0 0 ∧ Blk W1 (w.heap.size + 1 + 1 + 1) 0 0 0 0) := K1
        have KR : Hid (Blk W1 (w.heap.size + 1 + 1 + 1 + 1 + 1) (g0 (R + R)) (g1 X) (g2 X) (g3 X)) := K1R
        obtain ⟨⟨v0, v1, v2, v3, -, -, -, -⟩, -⟩ := K1
        obtain ⟨r0, -, -, -, r4, -, -, -⟩ := K1R
        go_region
        generalize hW : World.setCell _ _ _ = W2
        have ev : IntKind.u64.wrap (g0 (R + R) + (g3 a / 2 ^ s).tmod 2) = g0 X := by
          have e := g3_bd a
          have : 0 ≤ g3 a / 2 ^ s := Int.ediv_nonneg e.1 (by omega)
          rw [Int.tmod_eq_emod_of_nonneg this, eB, d0]
          have := g0_bd X
          rw [IntKind.wrap_u64]; omega
        have K2R : Blk W2 (w.heap.size + 1 + 1 + 1 + 1 + 1) (g0 X) (g1 X) (g2 X) (g3 X) := by
          rw [← hW, ev]; exact KR.out.set0 _
        have K2 : Hid (Blk W2 (w.heap.size) (g0 (a)) (g1 (a)) (g2 (a)) (g3 (a)) ∧ Blk W2 (w.heap.size + 1) (g0 (b)) (g1 (b)) (g2 (b)) (g3 (b)) ∧ Blk W2 (w.heap.size + 1 + 1 + 1 + 1) t0 t1 t2 t3 ∧ Blk W2 (w.heap.size + 1 + 1) 0 0 0 0 ∧ Blk W2 (w.heap.size + 1 + 1 + 1) 0 0 0 0) := by
          obtain ⟨u1, u2, u3, u4, u5⟩ := KK.out
          rw [← hW]
          exact ⟨u1.other (by omega), u2.other (by omega), u3.other (by omega), u4.other (by omega), u5.other (by omega)⟩
        have hB2 : Below w.heap.size w W2 := by rw [← hW]; repeat' (first | (with_reducible exact Below.refl _ _) | (with_reducible assumption) | (with_reducible refine bdrewN _ ?_) | (with_reducible refine Below.alloc ?_ ?_ _) | (with_reducible refine Below.setCell ?_ ?_ _) | (with_reducible refine Below.drew ?_) | go_size | (simp; omega))
        have hs2 : w.heap.size + 1 + 1 + 1 + 1 + 1 < W2.heap.size := by rw [← hW]; simp; omega
        clear hW ev KK KR hB1 hs1 v0 v1 v2 v3 r0 r4 d0 d1 d2 d3
        have KR : Hid (Blk W2 (w.heap.size + 1 + 1 + 1 + 1 + 1) (g0 X) (g1 X) (g2 X) (g3 X)) := K2R
        obtain ⟨r0, r1, r2, r3, r4, r5, r6, r7⟩ := K2R
        obtain ⟨l0, l1, l2, l3, -, -, -, -⟩ := K2.out.2.1
        obtain ⟨c, ec⟩ : ∃ c : Int, Hid (cmpI X b = c) := ⟨_, rfl⟩
        by_cases hc : b ≤ X
        · have hc0 : 0 ≤ c := by rw [← ec.out]; unfold cmpI; split <;> (try split) <;> omega
          obtain ⟨y1, y2⟩ := st1 hc
          clear st1 st2
          go_wp2_with fail
          refine (rcompare_any X b _ hX0 hX1 (by omega) (by omega)).mono ?_
          rintro e w3 ⟨rfl, hb3⟩
          rw [ec.out]
          have hH : W2.drew.heap.size = W2.heap.size := rfl
          rw [hH] at hb3
          have hb4 : Below W2.heap.size W2 w3 := ⟨hb3.os, hb3.tape, hb3.output, hb3.size, hb3.block⟩
          have hB3 := hB2.trans (hb4.mono hB2.size)
          have hs3 := hb4.size
          have hs4 : w.heap.size + 1 + 1 + 1 + 1 + 1 < w3.heap.size := by omega
          have K3 : Hid (Blk w3 (w.heap.size) (g0 (a)) (g1 (a)) (g2 (a)) (g3 (a)) ∧ Blk w3 (w.heap.size + 1) (g0 (b)) (g1 (b)) (g2 (b)) (g3 (b)) ∧ Blk w3 (w.heap.size + 1 + 1 + 1 + 1) t0 t1 t2 t3 ∧ Blk w3 (w.heap.size + 1 + 1) 0 0 0 0 ∧ Blk w3 (w.heap.size + 1 + 1 + 1) 0 0 0 0) := by
            obtain ⟨u1, u2, u3, u4, u5⟩ := K2.out
            exact ⟨u1.below hb4 (by omega), u2.below hb4 (by omega), u3.below hb4 (by omega), u4.below hb4 (by omega), u5.below hb4 (by omega)⟩
          have K3R : Hid (Blk w3 (w.heap.size + 1 + 1 + 1 + 1 + 1) (g0 X) (g1 X) (g2 X) (g3 X)) := KR.out.below hb4 (by omega)
          clear hb3 hb4 hs3 hs2 hB2 K2 KR r0 r1 r2 r3 r4 r5 r6 r7 l0 l1 l2 l3 hH
          obtain ⟨r0, r1, r2, r3, -, -, -, -⟩ := K3R.out
          obtain ⟨l0, l1, l2, l3, -, -, -, -⟩ := K3.out.2.1
          go_wp2_with fail
          refine (rless_any X b _ (by omega) hc hX1).mono ?_
          rintro e w4 ⟨rfl, hb5⟩
          have hB4 := hB3.trans (hb5.mono hB3.size)
          have hs5 := hb5.size
          have K4 : Hid (Blk w4 (w.heap.size) (g0 (a)) (g1 (a)) (g2 (a)) (g3 (a)) ∧ Blk w4 (w.heap.size + 1) (g0 (b)) (g1 (b)) (g2 (b)) (g3 (b)) ∧ Blk w4 (w.heap.size + 1 + 1 + 1 + 1) t0 t1 t2 t3 ∧ Blk w4 (w.heap.size + 1 + 1) 0 0 0 0 ∧ Blk w4 (w.heap.size + 1 + 1 + 1) 0 0 0 0) := by
            obtain ⟨u1, u2, u3, u4, u5⟩ := K3.out
            exact ⟨u1.below hb5 (by omega), u2.below hb5 (by omega), u3.below hb5 (by omega), u4.below hb5 (by omega), u5.below hb5 (by omega)⟩
          have K4R : Hid (Blk w4 (w.heap.size + 1 + 1 + 1 + 1 + 1) (g0 X) (g1 X) (g2 X) (g3 X)) := K3R.out.below hb5 (by omega)
          have hs6 : w.heap.size + 1 + 1 + 1 + 1 + 1 < w4.heap.size := by omega
          clear hb5 hs5 hs4 hB3 K3 K3R r0 r1 r2 r3 l0 l1 l2 l3
          obtain ⟨r0, r1, r2, r3, r4, r5, r6, r7⟩ := K4R.out
          obtain ⟨l0, l1, l2, l3, l4, l5, l6, l7⟩ := K4.out.2.2.1
          obtain ⟨u1, u2, u3, u4, u5⟩ := K4.out
          have u6 := K4R.out
          go_wp2
          exact ⟨⟨96 + s, t0, t1, t2, (t3 + 2 ^ s), X - b, by omega, p0, q0, p1, q1, p2, q2, (by omega), y1, y2, ⟨i0 - 1, by have := HB.out; omega, rfl⟩, (by repeat' (first | (with_reducible exact Below.refl _ _) | (with_reducible assumption) | (with_reducible refine bdrewN _ ?_) | (with_reducible refine Below.alloc ?_ ?_ _) | (with_reducible refine Below.setCell ?_ ?_ _) | (with_reducible refine Below.drew ?_) | go_size | (simp; omega))), by simp; omega, (u1.other4 (by omega)).other (by omega), (u2.other4 (by omega)).other (by omega), (u3.other4 (by omega)).set3 _, (u6.four _ _ _ _).other (by omega), (u4.other4 (by omega)).other (by omega), (u5.other4 (by omega)).other (by omega)⟩, by simp [intOf]; omega⟩
        · have hc0 : (0 ≤ c) = False := by simp; rw [← ec.out]; unfold cmpI; split <;> (try split) <;> omega
          have hc1 : c < 0 := by simpa using hc0
          have y2 := st2 (by omega)
          clear st1 st2
          go_wp2_with fail
          refine (rcompare_any X b _ hX0 hX1 (by omega) (by omega)).mono ?_
          rintro e w3 ⟨rfl, hb3⟩
          rw [ec.out]
          obtain ⟨u1, u2, u3, u4, u5⟩ := K2.out
          have u6 := KR.out
          have hH : W2.drew.heap.size = W2.heap.size := rfl
          rw [hH] at hb3
          have hb4 : Below W2.heap.size W2 w3 := ⟨hb3.os, hb3.tape, hb3.output, hb3.size, hb3.block⟩
          have hB3 := hB2.trans (hb4.mono hB2.size)
          have hs3 := hb4.size
          go_wp2
          exact ⟨⟨96 + s, t0, t1, t2, t3, X, by omega, p0, q0, p1, q1, p2, q2, p3, q3, y2, ⟨i0 - 1, by have := HB.out; omega, rfl⟩, hB3, by omega, u1.below hb4 (by omega), u2.below hb4 (by omega), u3.below hb4 (by omega), u6.below hb4 (by omega), u4.below hb4 (by omega), u5.below hb4 (by omega)⟩, by simp [intOf]; omega⟩

end Go.Proofs.YteipohpfaofchaaGreat

namespace Go.Proofs.YteipohpfaofchaaGreat
open Go.RowKit

set_option maxRecDepth 100000 in
/-- '==' between two rows of four digits. -/
theorem eq_dig (w : World) (x0 x1 x2 x3 y0 y1 y2 y3 : Int) :
    Sem.run Tryz.prog (Op.equalIn 9999 141 (.agg #[.int .u64 x0, .int .u64 x1, .int .u64 x2, .int .u64 x3]) (.agg #[.int .u64 y0, .int .u64 y1, .int .u64 y2, .int .u64 y3])) w = .ok (x0 == y0 && (x1 == y1 && (x2 == y2 && x3 == y3))) w := by
  have hp : Tryz.prog.plainKey 135 = true := by kernel_rfl
  have hc : Tryz.prog.cellsOf 135 = 1 := by kernel_rfl
  obtain ⟨i, hi⟩ : ∃ i, Tryz.prog.info? 135 = some i := ⟨_, rfl⟩
  have P0 : ∀ (xs : Array Value) (o : Nat) (a : Value), xs[o]? = some a → (part 135 xs o).run Tryz.prog w = .ok a w := fun xs o a h => run_part_plain w hp h
  have E0 : ∀ a b : Int, (Op.equalIn 9998 135 (.int .u64 a) (.int .u64 b)).run Tryz.prog w = .ok (a == b) w := fun a b => run_equalIn_int w 9997 _ _ _ a b Tryz.underlying135
  rw [run_equalIn_array w 9998 _ _ Tryz.underlying141 hi, hc]
  simp only [show List.range 4 = [0, 1, 2, 3] from rfl, Op.eqItems, Sem.run_bind, Nat.mul_one]
  rw [P0 _ 0 (.int .u64 x0) rfl, Result.andThen_ok, P0 _ 0 (.int .u64 y0) rfl, Result.andThen_ok, E0, Result.andThen_ok]
  by_cases h0 : x0 = y0
  · by_cases h1 : x1 = y1
    · by_cases h2 : x2 = y2
      · by_cases h3 : x3 = y3
        · simp [h0, h1, h2, h3, P0, E0]
        · simp [h0, h1, h2, h3, P0, E0]
      · simp [h0, h1, h2, P0, E0]
    · simp [h0, h1, P0, E0]
  · simp [h0]

theorem eq_digT (w : World) (x0 x1 x2 x3 : Int) :
    Sem.run Tryz.prog (Op.equalIn 9999 141 (.agg #[.int .u64 x0, .int .u64 x1, .int .u64 x2, .int .u64 x3]) (.agg #[.int .u64 x0, .int .u64 x1, .int .u64 x2, .int .u64 x3])) w = .ok true w := by
  rw [eq_dig]; simp
theorem eq_digF (w : World) (x0 x1 x2 x3 y0 y1 y2 y3 : Int) (h : ¬ (x0 = y0 ∧ x1 = y1 ∧ x2 = y2 ∧ x3 = y3)) :
    Sem.run Tryz.prog (Op.equalIn 9999 141 (.agg #[.int .u64 x0, .int .u64 x1, .int .u64 x2, .int .u64 x3]) (.agg #[.int .u64 y0, .int .u64 y1, .int .u64 y2, .int .u64 y3])) w = .ok false w := by
  rw [eq_dig]
  have : (x0 == y0 && (x1 == y1 && (x2 == y2 && x3 == y3))) = false := by simpa using h
  rw [this]

/-- The number that lies in a block of four digits. -/
def cellI (W : World) (B o : Nat) : Int := match W.cell? ⟨B, o, none⟩ with | some v => intOf v | none => 0
def bigAt (W : World) (B : Nat) : Nat := (cellI W B 0 + cellI W B 1 * 4294967296 + cellI W B 2 * 18446744073709551616 + cellI W B 3 * 79228162514264337593543950336).toNat
theorem Blk.big {W : World} {B : Nat} {x : Int} (h : Blk W B (g0 x) (g1 x) (g2 x) (g3 x)) (h0 : 0 ≤ x) (h1 : x < 340282366920938463463374607431768211456) : bigAt W B = x.toNat := by
  obtain ⟨c0, c1, c2, c3, -, -, -, -⟩ := h
  have e := g_sum x h0 h1
  simp only [bigAt, cellI, c0, c1, c2, c3, intOf]
  rw [← e]

theorem g_zero : g0 0 = 0 ∧ g1 0 = 0 ∧ g2 0 = 0 ∧ g3 0 = 0 := by decide
theorem g_pos (x : Int) (h0 : 0 ≤ x) (h1 : x < 340282366920938463463374607431768211456) (h : x ≠ 0) : ¬ (g0 x = 0 ∧ g1 x = 0 ∧ g2 x = 0 ∧ g3 x = 0) := by
  unfold g0 g1 g2 g3; omega
theorem Blk.fresh {W : World} {T : TypeId} {x0 x1 x2 x3 : Int} : Blk (W.alloc (.cells #[.int .u64 x0, .int .u64 x1, .int .u64 x2, .int .u64 x3] T)) W.heap.size x0 x1 x2 x3 := by
  constructor <;> simp (maxDischargeDepth := 12) [go_sem]
theorem Blk.alloc {W : World} {B : Nat} {O : Obj} {x0 x1 x2 x3 : Int} (h : Blk W B x0 x1 x2 x3) (hB : B < W.heap.size) : Blk (W.alloc O) B x0 x1 x2 x3 :=
  h.below (n := W.heap.size) ⟨rfl, rfl, rfl, by simp, fun k hk => Below.heap_alloc _ _ _ (by omega)⟩ hB

set_option maxRecDepth 100000 in
set_option maxHeartbeats 4000000 in
theorem rcommon_any (a b : Int) (w : World) (ha : 0 ≤ a) (ha' : a < 340282366920938463463374607431768211456) (hb : 0 ≤ b) (hb' : b ≤ 170141183460469231731687303715884105728) :
    Calls Tryz.prog 175 #[.agg #[.int .u64 (g0 a), .int .u64 (g1 a), .int .u64 (g2 a), .int .u64 (g3 a)], .agg #[.int .u64 (g0 b), .int .u64 (g1 b), .int .u64 (g2 b), .int .u64 (g3 b)]] w fun e w' => e = .returned (.agg #[.int .u64 (g0 (gc a b)), .int .u64 (g1 (gc a b)), .int .u64 (g2 (gc a b)), .int .u64 (g3 (gc a b))]) ∧ Below w.heap.size w w' := by
  go_enter Tryz.func175, Tryz.ntmps175
  go_wp2
  go_loopw [9] (fun _ wr => ∃ x y : Int, 0 ≤ x ∧ x < 340282366920938463463374607431768211456 ∧ 0 ≤ y ∧ y ≤ 170141183460469231731687303715884105728 ∧ Hid (gc x y = gc a b) ∧ Below w.heap.size w wr ∧ w.heap.size + 1 + 1 + 1 < wr.heap.size ∧ Blk wr (w.heap.size) (g0 (x)) (g1 (x)) (g2 (x)) (g3 (x)) ∧ Blk wr (w.heap.size + 1) (g0 (y)) (g1 (y)) (g2 (y)) (g3 (y)) ∧ Blk wr (w.heap.size + 1 + 1) (0) (0) (0) (0) ∧ Blk wr (w.heap.size + 1 + 1 + 1) (0) (0) (0) (0)) (fun _ wr => bigAt wr (w.heap.size + 1))
  case atStart =>
    refine ⟨a, b, ha, ha', hb, hb', rfl, by go_grown, by go_size, ?_, ?_, ?_, ?_⟩
    all_goals (constructor <;> simp (maxDischargeDepth := 12) [go_sem])
  case round =>
    obtain ⟨x, y, hx, hx', hy, hy', hg, hBw, hsz, kX, kY, kO, kN⟩ := hrel
    by_cases hy0 : y = 0
    · subst hy0
      have hgx : Hid (gc a b = x) := by rw [← hg.out]; exact gc_zero x hx
      clear hg
      obtain ⟨c0, c1, c2, c3, -, -, -, -⟩ := kY
      rw [g_zero.1] at c0
      rw [g_zero.2.1] at c1
      rw [g_zero.2.2.1] at c2
      rw [g_zero.2.2.2] at c3
      obtain ⟨n0, n1, n2, n3, -, -, -, -⟩ := kN
      have kO' := kO
      obtain ⟨o0, o1, o2, o3, o4, o5, o6, o7⟩ := kO
      obtain ⟨x0, x1, x2, x3, -, -, -, -⟩ := kX
      have he := eq_digT wr 0 0 0 0
      go_wp2
      have hB9 : Below w.heap.size w ((((wr.setCell ⟨w.heap.size + 1 + 1, 0, none⟩ (.int .u64 (g0 x))).setCell ⟨w.heap.size + 1 + 1, 1, none⟩ (.int .u64 (g1 x))).setCell ⟨w.heap.size + 1 + 1, 2, none⟩ (.int .u64 (g2 x))).setCell ⟨w.heap.size + 1 + 1, 3, none⟩ (.int .u64 (g3 x))) := (by repeat' (first | (with_reducible exact Below.refl _ _) | (with_reducible assumption) | (with_reducible refine bdrewN _ ?_) | (with_reducible refine Below.alloc ?_ ?_ _) | (with_reducible refine Below.setCell ?_ ?_ _) | (with_reducible refine Below.drew ?_) | go_size | (simp; omega)))
      have kO2 := kO'.four (g0 x) (g1 x) (g2 x) (g3 x)
      generalize World.setCell _ _ _ = W9 at hB9 kO2 ⊢
      obtain ⟨v0, v1, v2, v3, -, -, -, -⟩ := kO2
      refine bodyPost_ret (by simp [results, Tryz.results175, go_sem, v0, v1, v2, v3]; try rfl) rfl ?_
      exact ⟨ret_big (by rw [hgx.out]) (by rw [hgx.out]) (by rw [hgx.out]) (by rw [hgx.out]), hB9⟩
    · have hd := g_pos y hy (by omega) hy0
      have he := eq_digF wr _ _ _ _ 0 0 0 0 hd
      clear hd
      have kX' : Hid (Blk wr (w.heap.size) (g0 x) (g1 x) (g2 x) (g3 x)) := kX
      have kY' : Hid (Blk wr (w.heap.size + 1) (g0 y) (g1 y) (g2 y) (g3 y)) := kY
      have kO' : Hid (Blk wr (w.heap.size + 1 + 1) 0 0 0 0) := kO
      have kN' : Hid (Blk wr (w.heap.size + 1 + 1 + 1) 0 0 0 0) := kN
      clear kO
      obtain ⟨x0, x1, x2, x3, -, -, -, -⟩ := kX
      obtain ⟨y0, y1, y2, y3, -, -, -, -⟩ := kY
      obtain ⟨n0, n1, n2, n3, -, -, -, -⟩ := kN
      go_wp2_with fail
      refine (rdiv_any x y _ hx hx' (by omega) hy').mono ?_
      rintro e w1 ⟨rfl, hb1⟩
      have hs1 := hb1.size
      have u0 := kX'.out.below hb1 (by omega)
      have u1 := kY'.out.below hb1 (by omega)
      have u2 := kO'.out.below hb1 (by omega)
      have u3 := kN'.out.below hb1 (by omega)
      have hB1 := hBw.trans (hb1.mono hBw.size)
      have hsz1 : w.heap.size + 1 + 1 + 1 < w1.heap.size := by omega
      have U : Hid (Blk w1 (w.heap.size) (g0 x) (g1 x) (g2 x) (g3 x) ∧ Blk w1 (w.heap.size + 1) (g0 y) (g1 y) (g2 y) (g3 y) ∧ Blk w1 (w.heap.size + 1 + 1) 0 0 0 0 ∧ Blk w1 (w.heap.size + 1 + 1 + 1) 0 0 0 0) := ⟨u0, u1, u2, u3⟩
      clear u2 u3 kX' hb1 hs1 hBw hsz x0 x1 x2 x3 y0 y1 y2 y3 n0 n1 n2 n3 he
      clear u0 u1
      go_upto_region 4 with fail
      refine wp_world ?_
      intro W1 hW1
      obtain ⟨u0, u1, u2, u3⟩ := U.out
      have v0 : Blk W1 (w.heap.size) (g0 x) (g1 x) (g2 x) (g3 x) := by rw [hW1]; exact (u0.alloc (by omega)).alloc (by simp; omega)
      have v1 : Blk W1 (w.heap.size + 1) (g0 y) (g1 y) (g2 y) (g3 y) := by rw [hW1]; exact (u1.alloc (by omega)).alloc (by simp; omega)
      have v2 : Blk W1 (w.heap.size + 1 + 1) 0 0 0 0 := by rw [hW1]; exact (u2.alloc (by omega)).alloc (by simp; omega)
      have v3 : Blk W1 (w.heap.size + 1 + 1 + 1) 0 0 0 0 := by rw [hW1]; exact (u3.alloc (by omega)).alloc (by simp; omega)
      have v4 : Blk W1 (w1.heap.size + 1) (g0 (x % y)) (g1 (x % y)) (g2 (x % y)) (g3 (x % y)) := by
        rw [hW1]; have := Blk.fresh (W := w1.alloc (.cells #[.int .u64 (g0 (x / y)), .int .u64 (g1 (x / y)), .int .u64 (g2 (x / y)), .int .u64 (g3 (x / y))] 143)) (T := 143) (x0 := g0 (x % y)) (x1 := g1 (x % y)) (x2 := g2 (x % y)) (x3 := g3 (x % y))
        simpa using this
      have hB2 : Below w.heap.size w W1 := by rw [hW1]; exact (by repeat' (first | (with_reducible exact Below.refl _ _) | (with_reducible assumption) | (with_reducible refine bdrewN _ ?_) | (with_reducible refine Below.alloc ?_ ?_ _) | (with_reducible refine Below.setCell ?_ ?_ _) | (with_reducible refine Below.drew ?_) | go_size | (simp; omega)))
      have hs2 : w.heap.size + 1 + 1 + 1 < W1.heap.size := by rw [hW1]; simp; omega
      clear hW1 u0 u1 u2 u3 U hB1
      have V : Hid (Blk W1 (w.heap.size) (g0 x) (g1 x) (g2 x) (g3 x) ∧ Blk W1 (w.heap.size + 1) (g0 y) (g1 y) (g2 y) (g3 y) ∧ Blk W1 (w.heap.size + 1 + 1) 0 0 0 0 ∧ Blk W1 (w.heap.size + 1 + 1 + 1) 0 0 0 0) := ⟨v0, v1, v2, v3⟩
      clear v2 v3
      have hne1 : w1.heap.size + 1 ≠ w.heap.size := by omega
      have hne2 : w1.heap.size + 1 ≠ w.heap.size + 1 := by omega
      obtain ⟨x0, x1, x2, x3, x4, x5, x6, x7⟩ := v0
      obtain ⟨y0, y1, y2, y3, y4, y5, y6, y7⟩ := v1
      obtain ⟨r0, r1, r2, r3, -, -, -, -⟩ := v4
      go_wp2
      obtain ⟨u0, u1, u2, u3⟩ := V.out
      have m0 := Int.emod_nonneg x hy0
      have m1 := Int.emod_lt_of_pos x (show 0 < y by omega)
      refine ⟨⟨y, x % y, hy, by omega, m0, by omega, (gc_step x y hx (by omega)).trans hg.out, (by repeat' (first | (with_reducible exact Below.refl _ _) | (with_reducible assumption) | (with_reducible refine bdrewN _ ?_) | (with_reducible refine Below.alloc ?_ ?_ _) | (with_reducible refine Below.setCell ?_ ?_ _) | (with_reducible refine Below.drew ?_) | go_size | (simp; omega))), by simp; omega, ?_, ?_, ?_, ?_⟩, ?_⟩
      · exact (u0.four _ _ _ _).other4 (by omega)
      · exact (u1.other4 (B := w.heap.size) (by omega)).four _ _ _ _
      · exact (u2.other4 (by omega)).other4 (by omega)
      · exact (u3.other4 (by omega)).other4 (by omega)
      refine Nat.lt_of_le_of_lt (Nat.le_of_eq (Blk.big (x := x % y) ((u1.other4 (B := w.heap.size) (by omega)).four _ _ _ _) m0 (by omega))) ?_
      rw [kY'.out.big hy (by omega)]
      omega

end Go.Proofs.YteipohpfaofchaaGreat

namespace Go.Proofs.YteipohpfaofchaaGreat
open Go.RowKit

/-- A block of two numbers, which may be written. -/
structure Blk2 (W : World) (B : Nat) (v0 v1 : Int) : Prop where
  c0 : W.cell? ⟨B, 0, none⟩ = some (.int .i64 v0)
  c1 : W.cell? ⟨B, 1, none⟩ = some (.int .i64 v1)
  f0 : W.frozen? ⟨B, 0, none⟩ = false
  f1 : W.frozen? ⟨B, 1, none⟩ = false
theorem Blk2.below {W W' : World} {B n : Nat} {v0 v1 : Int} (h : Blk2 W B v0 v1) (hb : Below n W W') (hB : B < n) : Blk2 W' B v0 v1 :=
  ⟨(hb.cell (p := ⟨B, 0, none⟩) hB).trans h.c0, (hb.cell (p := ⟨B, 1, none⟩) hB).trans h.c1, (hb.frozen (p := ⟨B, 0, none⟩) hB).trans h.f0, (hb.frozen (p := ⟨B, 1, none⟩) hB).trans h.f1⟩
theorem Blk2.two {W : World} {B : Nat} {v0 v1 : Int} (h : Blk2 W B v0 v1) (x0 x1 : Int) : Blk2 ((W.setCell ⟨B, 0, none⟩ (.int .i64 x0)).setCell ⟨B, 1, none⟩ (.int .i64 x1)) B x0 x1 := by
  obtain ⟨c0, c1, f0, f1⟩ := h
  constructor <;> simp (maxDischargeDepth := 12) [go_sem, c0, c1, f0, f1]
theorem gc_part (n d : Int) (hn : 0 ≤ n) (hd : 0 < d) : 0 < gc n d ∧ gc n d ≤ d ∧ 0 ≤ n / gc n d ∧ n / gc n d ≤ n ∧ 0 < d / gc n d ∧ d / gc n d ≤ d ∧ (0 < n → 0 < n / gc n d) := by
  have h1 := gc_pos n d hd
  have h2 := gc_le n d hd
  have pos : ∀ m, 0 < m → gc n d ∣ m → 0 < m / gc n d := by
    intro m hm hk
    obtain ⟨c, hc⟩ := hk
    have hc0 : 0 < c := by
      rcases Int.lt_or_le 0 c with h | h
      · exact h
      · have := Int.mul_le_mul_of_nonneg_left h (Int.le_of_lt h1); omega
    have e : m / gc n d = c := by
      have : m / gc n d = gc n d * c / gc n d := congrArg (· / gc n d) hc
      rw [this, Int.mul_ediv_cancel_left _ (by omega)]
    omega
  exact ⟨h1, h2, Int.ediv_nonneg hn (by omega), div_le_self n _ hn h1, pos d hd (gc_dvd_right n d (by omega)), div_le_self d _ (by omega) h1, fun h => pos n h (gc_dvd_left n d hn)⟩

theorem low64 (x : Int) (h0 : 0 ≤ x) (h1 : x ≤ 18446744073709551615) : g1 x * 4294967296 + g0 x = x := by unfold g0 g1; omega

set_option maxRecDepth 100000 in
set_option maxHeartbeats 8000000 in
theorem rmade_raw (b : Bool) (n d G P Q c1 c2 N D E : Int) (w : World) (hn : 0 ≤ n) (hn' : n ≤ 170141183460469231731687303715884105728) (hd : 0 < d) (hd' : d ≤ 170141183460469231731687303715884105728)
    (eG : Hid (gc n d = G)) (eP : Hid (n / G = P)) (eQ : Hid (d / G = Q)) (hG : 0 < G) (hG' : G ≤ d) (hP : 0 ≤ P) (hP' : P ≤ n) (hQ : 0 < Q) (hQ' : Q ≤ d) (e1 : Hid (cmpI P 9223372036854775808 = c1)) (e2 : Hid (cmpI Q 9223372036854775808 = c2))
    (hcase : (0 ≤ c2 ∧ N = 0 ∧ D = 0 ∧ E = 10) ∨ (c2 < 0 ∧ 0 < c1 ∧ N = 0 ∧ D = 0 ∧ E = 10) ∨ (c2 < 0 ∧ c1 = 0 ∧ b = false ∧ N = 0 ∧ D = 0 ∧ E = 10) ∨ (c2 < 0 ∧ c1 = 0 ∧ b = true ∧ 0 < P ∧ P ≤ 9223372036854775808 ∧ Q < 9223372036854775808 ∧ N = -P ∧ D = Q ∧ E = 0) ∨ (c2 < 0 ∧ c1 < 0 ∧ b = false ∧ P < 9223372036854775808 ∧ Q < 9223372036854775808 ∧ N = P ∧ D = Q ∧ E = 0) ∨ (c2 < 0 ∧ c1 < 0 ∧ b = true ∧ 0 < P ∧ P < 9223372036854775808 ∧ Q < 9223372036854775808 ∧ N = -P ∧ D = Q ∧ E = 0)) :
    Calls Tryz.prog 163 #[.bool b, .agg #[.int .u64 (g0 n), .int .u64 (g1 n), .int .u64 (g2 n), .int .u64 (g3 n)], .agg #[.int .u64 (g0 d), .int .u64 (g1 d), .int .u64 (g2 d), .int .u64 (g3 d)]] w fun e w' => e = .returned (.tuple #[.agg #[.int .i64 N, .int .i64 D], .int .i64 E]) ∧ Below w.heap.size w w' := by
  go_enter Tryz.func163, Tryz.ntmps163
  go_upto_region 1 with fail
  refine wp_world ?_
  intro W0 hW0
  have hs0 : w.heap.size + 1 + 1 < W0.heap.size := by rw [hW0]; simp
  have bN : Blk W0 (w.heap.size) (g0 (n)) (g1 (n)) (g2 (n)) (g3 (n)) := by rw [hW0]; constructor <;> simp (maxDischargeDepth := 12) [go_sem]
  have bD : Blk W0 (w.heap.size + 1) (g0 (d)) (g1 (d)) (g2 (d)) (g3 (d)) := by rw [hW0]; constructor <;> simp (maxDischargeDepth := 12) [go_sem]
  have bR : Blk2 W0 (w.heap.size + 1 + 1) 0 0 := by rw [hW0]; constructor <;> simp (maxDischargeDepth := 12) [go_sem]
  have hB0 : Below w.heap.size w W0 := by rw [hW0]; exact (by repeat' (first | (with_reducible exact Below.refl _ _) | (with_reducible assumption) | (with_reducible refine bdrewN _ ?_) | (with_reducible refine Below.alloc ?_ ?_ _) | (with_reducible refine Below.setCell ?_ ?_ _) | (with_reducible refine Below.drew ?_) | go_size | (simp; omega)))
  clear hW0
  have HbN : Hid (Blk W0 (w.heap.size) (g0 (n)) (g1 (n)) (g2 (n)) (g3 (n))) := bN
  have HbD : Hid (Blk W0 (w.heap.size + 1) (g0 (d)) (g1 (d)) (g2 (d)) (g3 (d))) := bD
  have HbR : Hid (Blk2 W0 (w.heap.size + 1 + 1) (0) (0)) := bR
  clear bN bD bR
  obtain ⟨bD_0, bD_1, bD_2, bD_3, -, -, -, -⟩ := HbD.out
  obtain ⟨bN_0, bN_1, bN_2, bN_3, -, -, -, -⟩ := HbN.out
  go_wp2_with fail
  refine (rcommon_any n d _ hn (by omega) (by omega) hd').mono ?_
  rintro e w1 ⟨rfl, hb1⟩
  have hz1 := hb1.size
  clear bD_0 bD_1 bD_2 bD_3
  clear bN_0 bN_1 bN_2 bN_3
  rw [eG.out]
  go_upto_region 2 with fail
  refine wp_world ?_
  intro W1 hW1
  have hst1 : Below W0.heap.size W0 W1 := by rw [hW1]; exact (by repeat' (first | (with_reducible exact Below.refl _ _) | (with_reducible assumption) | (with_reducible refine bdrewN _ ?_) | (with_reducible refine Below.alloc ?_ ?_ _) | (with_reducible refine Below.setCell ?_ ?_ _) | (with_reducible refine Below.drew ?_) | go_size | (simp; omega)))
  have hB1 : Below w.heap.size w W1 := hB0.trans (hst1.mono hB0.size)
  have hs1 : w.heap.size + 1 + 1 < W1.heap.size := by have := hst1.size; omega
  have bN : Blk W1 (w.heap.size) (g0 (n)) (g1 (n)) (g2 (n)) (g3 (n)) := HbN.out.below hst1 (by omega)
  have bD : Blk W1 (w.heap.size + 1) (g0 (d)) (g1 (d)) (g2 (d)) (g3 (d)) := HbD.out.below hst1 (by omega)
  have bR : Blk2 W1 (w.heap.size + 1 + 1) (0) (0) := HbR.out.below hst1 (by omega)
  have bG : Blk W1 (w1.heap.size) (g0 (G)) (g1 (G)) (g2 (G)) (g3 (G)) := by rw [hW1]; constructor <;> simp (maxDischargeDepth := 12) [go_sem]
  have hl_bG : w1.heap.size < W1.heap.size := by rw [hW1]; first | (simp; done) | (simp; omega)
  clear hW1 hst1 hb1 hB0 hs0 hz1 HbN HbD HbR
  have HbN : Hid (Blk W1 (w.heap.size) (g0 (n)) (g1 (n)) (g2 (n)) (g3 (n))) := bN
  have HbD : Hid (Blk W1 (w.heap.size + 1) (g0 (d)) (g1 (d)) (g2 (d)) (g3 (d))) := bD
  have HbR : Hid (Blk2 W1 (w.heap.size + 1 + 1) (0) (0)) := bR
  have HbG : Hid (Blk W1 (w1.heap.size) (g0 (G)) (g1 (G)) (g2 (G)) (g3 (G))) := bG
  clear bN bD bR bG
  obtain ⟨bG_0, bG_1, bG_2, bG_3, -, -, -, -⟩ := HbG.out
  obtain ⟨bN_0, bN_1, bN_2, bN_3, -, -, -, -⟩ := HbN.out
  go_wp2_with fail
  refine (rdiv_any n G _ hn (by omega) hG (by omega)).mono ?_
  rintro e w2 ⟨rfl, hb2⟩
  have hz2 := hb2.size
  clear bG_0 bG_1 bG_2 bG_3
  clear bN_0 bN_1 bN_2 bN_3
  rw [eP.out]
  go_upto_region 3 with fail
  refine wp_world ?_
  intro W2 hW2
  have hst2 : Below W1.heap.size W1 W2 := by rw [hW2]; exact (by repeat' (first | (with_reducible exact Below.refl _ _) | (with_reducible assumption) | (with_reducible refine bdrewN _ ?_) | (with_reducible refine Below.alloc ?_ ?_ _) | (with_reducible refine Below.setCell ?_ ?_ _) | (with_reducible refine Below.drew ?_) | go_size | (simp; omega)))
  have hB2 : Below w.heap.size w W2 := hB1.trans (hst2.mono hB1.size)
  have hs2 : w.heap.size + 1 + 1 < W2.heap.size := by have := hst2.size; omega
  have bN : Blk W2 (w.heap.size) (g0 (n)) (g1 (n)) (g2 (n)) (g3 (n)) := HbN.out.below hst2 (by omega)
  have bD : Blk W2 (w.heap.size + 1) (g0 (d)) (g1 (d)) (g2 (d)) (g3 (d)) := HbD.out.below hst2 (by omega)
  have bR : Blk2 W2 (w.heap.size + 1 + 1) (0) (0) := HbR.out.below hst2 (by omega)
  have bG : Blk W2 (w1.heap.size) (g0 (G)) (g1 (G)) (g2 (G)) (g3 (G)) := HbG.out.below hst2 (by omega)
  have bP : Blk W2 (w2.heap.size) (g0 (P)) (g1 (P)) (g2 (P)) (g3 (P)) := by rw [hW2]; constructor <;> simp (maxDischargeDepth := 12) [go_sem]
  have hl_bP : w2.heap.size < W2.heap.size := by rw [hW2]; first | (simp; done) | (simp; omega)
  have bX : Blk W2 (w2.heap.size + 1) (g0 (n % G)) (g1 (n % G)) (g2 (n % G)) (g3 (n % G)) := by rw [hW2]; constructor <;> simp (maxDischargeDepth := 12) [go_sem]
  have hl_bX : w2.heap.size + 1 < W2.heap.size := by rw [hW2]; first | (simp; done) | (simp; omega)
  have hl_bG : w1.heap.size < W2.heap.size := by have := hst2.size; omega
  clear hW2 hst2 hb2 hB1 hs1 hz2 HbN HbD HbR HbG
  have HbN : Hid (Blk W2 (w.heap.size) (g0 (n)) (g1 (n)) (g2 (n)) (g3 (n))) := bN
  have HbD : Hid (Blk W2 (w.heap.size + 1) (g0 (d)) (g1 (d)) (g2 (d)) (g3 (d))) := bD
  have HbR : Hid (Blk2 W2 (w.heap.size + 1 + 1) (0) (0)) := bR
  have HbG : Hid (Blk W2 (w1.heap.size) (g0 (G)) (g1 (G)) (g2 (G)) (g3 (G))) := bG
  have HbP : Hid (Blk W2 (w2.heap.size) (g0 (P)) (g1 (P)) (g2 (P)) (g3 (P))) := bP
  have HbX : Hid (Blk W2 (w2.heap.size + 1) (g0 (n % G)) (g1 (n % G)) (g2 (n % G)) (g3 (n % G))) := bX
  clear bN bD bR bG bP bX
  obtain ⟨bD_0, bD_1, bD_2, bD_3, -, -, -, -⟩ := HbD.out
  obtain ⟨bG_0, bG_1, bG_2, bG_3, -, -, -, -⟩ := HbG.out
  go_wp2_with fail
  refine (rdiv_any d G _ (by omega) (by omega) hG (by omega)).mono ?_
  rintro e w3 ⟨rfl, hb3⟩
  have hz3 := hb3.size
  clear bD_0 bD_1 bD_2 bD_3
  clear bG_0 bG_1 bG_2 bG_3
  rw [eQ.out]
  go_upto_region 4 with fail
  refine wp_world ?_
  intro W3 hW3
  have hst3 : Below W2.heap.size W2 W3 := by rw [hW3]; exact (by repeat' (first | (with_reducible exact Below.refl _ _) | (with_reducible assumption) | (with_reducible refine bdrewN _ ?_) | (with_reducible refine Below.alloc ?_ ?_ _) | (with_reducible refine Below.setCell ?_ ?_ _) | (with_reducible refine Below.drew ?_) | go_size | (simp; omega)))
  have hB3 : Below w.heap.size w W3 := hB2.trans (hst3.mono hB2.size)
  have hs3 : w.heap.size + 1 + 1 < W3.heap.size := by have := hst3.size; omega
  have bN : Blk W3 (w.heap.size) (g0 (n)) (g1 (n)) (g2 (n)) (g3 (n)) := HbN.out.below hst3 (by omega)
  have bD : Blk W3 (w.heap.size + 1) (g0 (d)) (g1 (d)) (g2 (d)) (g3 (d)) := HbD.out.below hst3 (by omega)
  have bR : Blk2 W3 (w.heap.size + 1 + 1) (0) (0) := HbR.out.below hst3 (by omega)
  have bG : Blk W3 (w1.heap.size) (g0 (G)) (g1 (G)) (g2 (G)) (g3 (G)) := HbG.out.below hst3 (by omega)
  have bP : Blk W3 (w2.heap.size) (g0 (P)) (g1 (P)) (g2 (P)) (g3 (P)) := HbP.out.below hst3 (by omega)
  have bX : Blk W3 (w2.heap.size + 1) (g0 (n % G)) (g1 (n % G)) (g2 (n % G)) (g3 (n % G)) := HbX.out.below hst3 (by omega)
  have bQ : Blk W3 (w3.heap.size) (g0 (Q)) (g1 (Q)) (g2 (Q)) (g3 (Q)) := by rw [hW3]; constructor <;> simp (maxDischargeDepth := 12) [go_sem]
  have hl_bQ : w3.heap.size < W3.heap.size := by rw [hW3]; first | (simp; done) | (simp; omega)
  have bY : Blk W3 (w3.heap.size + 1) (g0 (d % G)) (g1 (d % G)) (g2 (d % G)) (g3 (d % G)) := by rw [hW3]; constructor <;> simp (maxDischargeDepth := 12) [go_sem]
  have hl_bY : w3.heap.size + 1 < W3.heap.size := by rw [hW3]; first | (simp; done) | (simp; omega)
  have hl_bG : w1.heap.size < W3.heap.size := by have := hst3.size; omega
  have hl_bP : w2.heap.size < W3.heap.size := by have := hst3.size; omega
  have hl_bX : w2.heap.size + 1 < W3.heap.size := by have := hst3.size; omega
  clear hW3 hst3 hb3 hB2 hs2 hz3 HbN HbD HbR HbG HbP HbX
  have HbN : Hid (Blk W3 (w.heap.size) (g0 (n)) (g1 (n)) (g2 (n)) (g3 (n))) := bN
  have HbD : Hid (Blk W3 (w.heap.size + 1) (g0 (d)) (g1 (d)) (g2 (d)) (g3 (d))) := bD
  have HbR : Hid (Blk2 W3 (w.heap.size + 1 + 1) (0) (0)) := bR
  have HbG : Hid (Blk W3 (w1.heap.size) (g0 (G)) (g1 (G)) (g2 (G)) (g3 (G))) := bG
  have HbP : Hid (Blk W3 (w2.heap.size) (g0 (P)) (g1 (P)) (g2 (P)) (g3 (P))) := bP
  have HbX : Hid (Blk W3 (w2.heap.size + 1) (g0 (n % G)) (g1 (n % G)) (g2 (n % G)) (g3 (n % G))) := bX
  have HbQ : Hid (Blk W3 (w3.heap.size) (g0 (Q)) (g1 (Q)) (g2 (Q)) (g3 (Q))) := bQ
  have HbY : Hid (Blk W3 (w3.heap.size + 1) (g0 (d % G)) (g1 (d % G)) (g2 (d % G)) (g3 (d % G))) := bY
  clear bN bD bR bG bP bX bQ bY
  go_wp2_with fail
  refine (rof_any 9223372036854775808 _ (by omega) (by omega)).mono ?_
  rintro e w4 ⟨rfl, hb4⟩
  have hz4 := hb4.size
  go_upto_region 5 with fail
  refine wp_world ?_
  intro W4 hW4
  have hst4 : Below W3.heap.size W3 W4 := by rw [hW4]; exact (by repeat' (first | (with_reducible exact Below.refl _ _) | (with_reducible assumption) | (with_reducible refine bdrewN _ ?_) | (with_reducible refine Below.alloc ?_ ?_ _) | (with_reducible refine Below.setCell ?_ ?_ _) | (with_reducible refine Below.drew ?_) | go_size | (simp; omega)))
  have hB4 : Below w.heap.size w W4 := hB3.trans (hst4.mono hB3.size)
  have hs4 : w.heap.size + 1 + 1 < W4.heap.size := by have := hst4.size; omega
  have bN : Blk W4 (w.heap.size) (g0 (n)) (g1 (n)) (g2 (n)) (g3 (n)) := HbN.out.below hst4 (by omega)
  have bD : Blk W4 (w.heap.size + 1) (g0 (d)) (g1 (d)) (g2 (d)) (g3 (d)) := HbD.out.below hst4 (by omega)
  have bR : Blk2 W4 (w.heap.size + 1 + 1) (0) (0) := HbR.out.below hst4 (by omega)
  have bG : Blk W4 (w1.heap.size) (g0 (G)) (g1 (G)) (g2 (G)) (g3 (G)) := HbG.out.below hst4 (by omega)
  have bP : Blk W4 (w2.heap.size) (g0 (P)) (g1 (P)) (g2 (P)) (g3 (P)) := HbP.out.below hst4 (by omega)
  have bX : Blk W4 (w2.heap.size + 1) (g0 (n % G)) (g1 (n % G)) (g2 (n % G)) (g3 (n % G)) := HbX.out.below hst4 (by omega)
  have bQ : Blk W4 (w3.heap.size) (g0 (Q)) (g1 (Q)) (g2 (Q)) (g3 (Q)) := HbQ.out.below hst4 (by omega)
  have bY : Blk W4 (w3.heap.size + 1) (g0 (d % G)) (g1 (d % G)) (g2 (d % G)) (g3 (d % G)) := HbY.out.below hst4 (by omega)
  have bM : Blk W4 (w4.heap.size) (g0 (9223372036854775808)) (g1 (9223372036854775808)) (g2 (9223372036854775808)) (g3 (9223372036854775808)) := by rw [hW4]; constructor <;> simp (maxDischargeDepth := 12) [go_sem]
  have hl_bM : w4.heap.size < W4.heap.size := by rw [hW4]; first | (simp; done) | (simp; omega)
  have hl_bG : w1.heap.size < W4.heap.size := by have := hst4.size; omega
  have hl_bP : w2.heap.size < W4.heap.size := by have := hst4.size; omega
  have hl_bX : w2.heap.size + 1 < W4.heap.size := by have := hst4.size; omega
  have hl_bQ : w3.heap.size < W4.heap.size := by have := hst4.size; omega
  have hl_bY : w3.heap.size + 1 < W4.heap.size := by have := hst4.size; omega
  clear hW4 hst4 hb4 hB3 hs3 hz4 HbN HbD HbR HbG HbP HbX HbQ HbY
  have HbN : Hid (Blk W4 (w.heap.size) (g0 (n)) (g1 (n)) (g2 (n)) (g3 (n))) := bN
  have HbD : Hid (Blk W4 (w.heap.size + 1) (g0 (d)) (g1 (d)) (g2 (d)) (g3 (d))) := bD
  have HbR : Hid (Blk2 W4 (w.heap.size + 1 + 1) (0) (0)) := bR
  have HbG : Hid (Blk W4 (w1.heap.size) (g0 (G)) (g1 (G)) (g2 (G)) (g3 (G))) := bG
  have HbP : Hid (Blk W4 (w2.heap.size) (g0 (P)) (g1 (P)) (g2 (P)) (g3 (P))) := bP
  have HbX : Hid (Blk W4 (w2.heap.size + 1) (g0 (n % G)) (g1 (n % G)) (g2 (n % G)) (g3 (n % G))) := bX
  have HbQ : Hid (Blk W4 (w3.heap.size) (g0 (Q)) (g1 (Q)) (g2 (Q)) (g3 (Q))) := bQ
  have HbY : Hid (Blk W4 (w3.heap.size + 1) (g0 (d % G)) (g1 (d % G)) (g2 (d % G)) (g3 (d % G))) := bY
  have HbM : Hid (Blk W4 (w4.heap.size) (g0 (9223372036854775808)) (g1 (9223372036854775808)) (g2 (9223372036854775808)) (g3 (9223372036854775808))) := bM
  clear bN bD bR bG bP bX bQ bY bM
  obtain ⟨bM_0, bM_1, bM_2, bM_3, -, -, -, -⟩ := HbM.out
  obtain ⟨bP_0, bP_1, bP_2, bP_3, -, -, -, -⟩ := HbP.out
  go_wp2_with fail
  refine (rcompare_any P 9223372036854775808 _ hP (by omega) (by omega) (by omega)).mono ?_
  rintro e w5 ⟨rfl, hb5⟩
  have hz5 := hb5.size
  clear bM_0 bM_1 bM_2 bM_3
  clear bP_0 bP_1 bP_2 bP_3
  rw [e1.out]
  go_upto_region 6 with fail
  refine wp_world ?_
  intro W5 hW5
  have hst5 : Below W4.heap.size W4 W5 := by rw [hW5]; exact (by repeat' (first | (with_reducible exact Below.refl _ _) | (with_reducible assumption) | (with_reducible refine bdrewN _ ?_) | (with_reducible refine Below.alloc ?_ ?_ _) | (with_reducible refine Below.setCell ?_ ?_ _) | (with_reducible refine Below.drew ?_) | go_size | (simp; omega)))
  have hB5 : Below w.heap.size w W5 := hB4.trans (hst5.mono hB4.size)
  have hs5 : w.heap.size + 1 + 1 < W5.heap.size := by have := hst5.size; omega
  have bN : Blk W5 (w.heap.size) (g0 (n)) (g1 (n)) (g2 (n)) (g3 (n)) := HbN.out.below hst5 (by omega)
  have bD : Blk W5 (w.heap.size + 1) (g0 (d)) (g1 (d)) (g2 (d)) (g3 (d)) := HbD.out.below hst5 (by omega)
  have bR : Blk2 W5 (w.heap.size + 1 + 1) (0) (0) := HbR.out.below hst5 (by omega)
  have bG : Blk W5 (w1.heap.size) (g0 (G)) (g1 (G)) (g2 (G)) (g3 (G)) := HbG.out.below hst5 (by omega)
  have bP : Blk W5 (w2.heap.size) (g0 (P)) (g1 (P)) (g2 (P)) (g3 (P)) := HbP.out.below hst5 (by omega)
  have bX : Blk W5 (w2.heap.size + 1) (g0 (n % G)) (g1 (n % G)) (g2 (n % G)) (g3 (n % G)) := HbX.out.below hst5 (by omega)
  have bQ : Blk W5 (w3.heap.size) (g0 (Q)) (g1 (Q)) (g2 (Q)) (g3 (Q)) := HbQ.out.below hst5 (by omega)
  have bY : Blk W5 (w3.heap.size + 1) (g0 (d % G)) (g1 (d % G)) (g2 (d % G)) (g3 (d % G)) := HbY.out.below hst5 (by omega)
  have bM : Blk W5 (w4.heap.size) (g0 (9223372036854775808)) (g1 (9223372036854775808)) (g2 (9223372036854775808)) (g3 (9223372036854775808)) := HbM.out.below hst5 (by omega)
  have hl_bG : w1.heap.size < W5.heap.size := by have := hst5.size; omega
  have hl_bP : w2.heap.size < W5.heap.size := by have := hst5.size; omega
  have hl_bX : w2.heap.size + 1 < W5.heap.size := by have := hst5.size; omega
  have hl_bQ : w3.heap.size < W5.heap.size := by have := hst5.size; omega
  have hl_bY : w3.heap.size + 1 < W5.heap.size := by have := hst5.size; omega
  have hl_bM : w4.heap.size < W5.heap.size := by have := hst5.size; omega
  clear hW5 hst5 hb5 hB4 hs4 hz5 HbN HbD HbR HbG HbP HbX HbQ HbY HbM
  have HbN : Hid (Blk W5 (w.heap.size) (g0 (n)) (g1 (n)) (g2 (n)) (g3 (n))) := bN
  have HbD : Hid (Blk W5 (w.heap.size + 1) (g0 (d)) (g1 (d)) (g2 (d)) (g3 (d))) := bD
  have HbR : Hid (Blk2 W5 (w.heap.size + 1 + 1) (0) (0)) := bR
  have HbG : Hid (Blk W5 (w1.heap.size) (g0 (G)) (g1 (G)) (g2 (G)) (g3 (G))) := bG
  have HbP : Hid (Blk W5 (w2.heap.size) (g0 (P)) (g1 (P)) (g2 (P)) (g3 (P))) := bP
  have HbX : Hid (Blk W5 (w2.heap.size + 1) (g0 (n % G)) (g1 (n % G)) (g2 (n % G)) (g3 (n % G))) := bX
  have HbQ : Hid (Blk W5 (w3.heap.size) (g0 (Q)) (g1 (Q)) (g2 (Q)) (g3 (Q))) := bQ
  have HbY : Hid (Blk W5 (w3.heap.size + 1) (g0 (d % G)) (g1 (d % G)) (g2 (d % G)) (g3 (d % G))) := bY
  have HbM : Hid (Blk W5 (w4.heap.size) (g0 (9223372036854775808)) (g1 (9223372036854775808)) (g2 (9223372036854775808)) (g3 (9223372036854775808))) := bM
  clear bN bD bR bG bP bX bQ bY bM
  obtain ⟨bM_0, bM_1, bM_2, bM_3, -, -, -, -⟩ := HbM.out
  obtain ⟨bQ_0, bQ_1, bQ_2, bQ_3, -, -, -, -⟩ := HbQ.out
  go_wp2_with fail
  refine (rcompare_any Q 9223372036854775808 _ (by omega) (by omega) (by omega) (by omega)).mono ?_
  rintro e w6 ⟨rfl, hb6⟩
  have hz6 := hb6.size
  clear bM_0 bM_1 bM_2 bM_3
  clear bQ_0 bQ_1 bQ_2 bQ_3
  rw [e2.out]
  go_upto_region 7 with fail
  refine wp_world ?_
  intro W6 hW6
  have hst6 : Below W5.heap.size W5 W6 := by rw [hW6]; exact (by repeat' (first | (with_reducible exact Below.refl _ _) | (with_reducible assumption) | (with_reducible refine bdrewN _ ?_) | (with_reducible refine Below.alloc ?_ ?_ _) | (with_reducible refine Below.setCell ?_ ?_ _) | (with_reducible refine Below.drew ?_) | go_size | (simp; omega)))
  have hB6 : Below w.heap.size w W6 := hB5.trans (hst6.mono hB5.size)
  have hs6 : w.heap.size + 1 + 1 < W6.heap.size := by have := hst6.size; omega
  have bN : Blk W6 (w.heap.size) (g0 (n)) (g1 (n)) (g2 (n)) (g3 (n)) := HbN.out.below hst6 (by omega)
  have bD : Blk W6 (w.heap.size + 1) (g0 (d)) (g1 (d)) (g2 (d)) (g3 (d)) := HbD.out.below hst6 (by omega)
  have bR : Blk2 W6 (w.heap.size + 1 + 1) (0) (0) := HbR.out.below hst6 (by omega)
  have bG : Blk W6 (w1.heap.size) (g0 (G)) (g1 (G)) (g2 (G)) (g3 (G)) := HbG.out.below hst6 (by omega)
  have bP : Blk W6 (w2.heap.size) (g0 (P)) (g1 (P)) (g2 (P)) (g3 (P)) := HbP.out.below hst6 (by omega)
  have bX : Blk W6 (w2.heap.size + 1) (g0 (n % G)) (g1 (n % G)) (g2 (n % G)) (g3 (n % G)) := HbX.out.below hst6 (by omega)
  have bQ : Blk W6 (w3.heap.size) (g0 (Q)) (g1 (Q)) (g2 (Q)) (g3 (Q)) := HbQ.out.below hst6 (by omega)
  have bY : Blk W6 (w3.heap.size + 1) (g0 (d % G)) (g1 (d % G)) (g2 (d % G)) (g3 (d % G)) := HbY.out.below hst6 (by omega)
  have bM : Blk W6 (w4.heap.size) (g0 (9223372036854775808)) (g1 (9223372036854775808)) (g2 (9223372036854775808)) (g3 (9223372036854775808)) := HbM.out.below hst6 (by omega)
  have hl_bG : w1.heap.size < W6.heap.size := by have := hst6.size; omega
  have hl_bP : w2.heap.size < W6.heap.size := by have := hst6.size; omega
  have hl_bX : w2.heap.size + 1 < W6.heap.size := by have := hst6.size; omega
  have hl_bQ : w3.heap.size < W6.heap.size := by have := hst6.size; omega
  have hl_bY : w3.heap.size + 1 < W6.heap.size := by have := hst6.size; omega
  have hl_bM : w4.heap.size < W6.heap.size := by have := hst6.size; omega
  clear hW6 hst6 hb6 hB5 hs5 hz6 HbN HbD HbR HbG HbP HbX HbQ HbY HbM
  have bRR : Hid (Blk2 W6 (w.heap.size + 1 + 1) 0 0) := bR
  obtain ⟨bR0, bR1, bR2, bR3⟩ := bR
  obtain ⟨bP0, bP1, bP2, bP3, -, -, -, -⟩ := bP
  obtain ⟨bQ0, bQ1, bQ2, bQ3, -, -, -, -⟩ := bQ
  have zP0 := g0_bd P; have zP1 := g1_bd P; have zQ0 := g0_bd Q; have zQ1 := g1_bd Q
  clear bN bD bG bX bY bM
  rcases hcase with ⟨h2, rfl, rfl, rfl⟩ | ⟨h2, h1, rfl, rfl, rfl⟩ | ⟨h2, rfl, rfl, rfl, rfl, rfl⟩ | ⟨h2, rfl, rfl, hP3, hP2, hQ2, hN, hD, rfl⟩ | ⟨h2, h1, rfl, hP2, hQ2, hN, hD, rfl⟩ | ⟨h2, h1, rfl, hP3, hP2, hQ2, hN, hD, rfl⟩
  · skip
    go_wp2
    generalize hW9 : World.setCell _ _ _ = W9
    have b9 := bRR.out.two (0) (0)
    rw [hW9] at b9
    have hB9 : Below w.heap.size w W9 := by rw [← hW9]; exact (by repeat' (first | (with_reducible exact Below.refl _ _) | (with_reducible assumption) | (with_reducible refine bdrewN _ ?_) | (with_reducible refine Below.alloc ?_ ?_ _) | (with_reducible refine Below.setCell ?_ ?_ _) | (with_reducible refine Below.drew ?_) | go_size | (simp; omega)))
    clear hW9
    obtain ⟨x0, x1, -, -⟩ := b9
    refine bodyPost_ret (by simp [results, Tryz.results163, go_sem, x0, x1]; try rfl) rfl ?_
    exact ⟨rfl, hB9⟩
  · have h2f : (0 ≤ c2) = False := by simp; omega
    go_wp2
    generalize hW9 : World.setCell _ _ _ = W9
    have b9 := bRR.out.two (0) (0)
    rw [hW9] at b9
    have hB9 : Below w.heap.size w W9 := by rw [← hW9]; exact (by repeat' (first | (with_reducible exact Below.refl _ _) | (with_reducible assumption) | (with_reducible refine bdrewN _ ?_) | (with_reducible refine Below.alloc ?_ ?_ _) | (with_reducible refine Below.setCell ?_ ?_ _) | (with_reducible refine Below.drew ?_) | go_size | (simp; omega)))
    clear hW9
    obtain ⟨x0, x1, -, -⟩ := b9
    refine bodyPost_ret (by simp [results, Tryz.results163, go_sem, x0, x1]; try rfl) rfl ?_
    exact ⟨rfl, hB9⟩
  · have h2f : (0 ≤ c2) = False := by simp; omega
    go_wp2
    generalize hW9 : World.setCell _ _ _ = W9
    have b9 := bRR.out.two (0) (0)
    rw [hW9] at b9
    have hB9 : Below w.heap.size w W9 := by rw [← hW9]; exact (by repeat' (first | (with_reducible exact Below.refl _ _) | (with_reducible assumption) | (with_reducible refine bdrewN _ ?_) | (with_reducible refine Below.alloc ?_ ?_ _) | (with_reducible refine Below.setCell ?_ ?_ _) | (with_reducible refine Below.drew ?_) | go_size | (simp; omega)))
    clear hW9
    obtain ⟨x0, x1, -, -⟩ := b9
    refine bodyPost_ret (by simp [results, Tryz.results163, go_sem, x0, x1]; try rfl) rfl ?_
    exact ⟨rfl, hB9⟩
  · have hN : Hid (N = _) := hN
    have hD : Hid (D = Q) := hD
    have h2f : (0 ≤ c2) = False := by simp; omega
    have xP := low64 P (by omega) (by omega)
    have xQ := low64 Q (by omega) (by omega)
    go_wp2
    generalize hW9 : World.setCell _ _ _ = W9
    have b9 := bRR.out.two (-(P - 1) - 1) (Q)
    rw [hW9] at b9
    have hB9 : Below w.heap.size w W9 := by rw [← hW9]; exact (by repeat' (first | (with_reducible exact Below.refl _ _) | (with_reducible assumption) | (with_reducible refine bdrewN _ ?_) | (with_reducible refine Below.alloc ?_ ?_ _) | (with_reducible refine Below.setCell ?_ ?_ _) | (with_reducible refine Below.drew ?_) | go_size | (simp; omega)))
    clear hW9
    obtain ⟨x0, x1, -, -⟩ := b9
    refine bodyPost_ret (by simp [results, Tryz.results163, go_sem, x0, x1]; try rfl) rfl ?_
    exact ⟨ret_frac (by rw [hN.out]; omega) (by rw [hD.out]) rfl, hB9⟩
  · have hN : Hid (N = _) := hN
    have hD : Hid (D = Q) := hD
    have h2f : (0 ≤ c2) = False := by simp; omega
    have h1f : (0 < c1) = False := by simp; omega
    have h1e : (c1 = 0) = False := by simp; omega
    have h1b : (c1 == 0) = false := by simp; omega
    have xP := low64 P (by omega) (by omega)
    have xQ := low64 Q (by omega) (by omega)
    go_wp2
    generalize hW9 : World.setCell _ _ _ = W9
    have b9 := bRR.out.two (P) (Q)
    rw [hW9] at b9
    have hB9 : Below w.heap.size w W9 := by rw [← hW9]; exact (by repeat' (first | (with_reducible exact Below.refl _ _) | (with_reducible assumption) | (with_reducible refine bdrewN _ ?_) | (with_reducible refine Below.alloc ?_ ?_ _) | (with_reducible refine Below.setCell ?_ ?_ _) | (with_reducible refine Below.drew ?_) | go_size | (simp; omega)))
    clear hW9
    obtain ⟨x0, x1, -, -⟩ := b9
    refine bodyPost_ret (by simp [results, Tryz.results163, go_sem, x0, x1]; try rfl) rfl ?_
    exact ⟨ret_frac (by rw [hN.out]) (by rw [hD.out]) rfl, hB9⟩
  · have hN : Hid (N = _) := hN
    have hD : Hid (D = Q) := hD
    have h2f : (0 ≤ c2) = False := by simp; omega
    have h1f : (0 < c1) = False := by simp; omega
    have h1e : (c1 = 0) = False := by simp; omega
    have h1b : (c1 == 0) = false := by simp; omega
    have xP := low64 P (by omega) (by omega)
    have xQ := low64 Q (by omega) (by omega)
    go_wp2
    generalize hW9 : World.setCell _ _ _ = W9
    have b9 := bRR.out.two (-(P - 1) - 1) (Q)
    rw [hW9] at b9
    have hB9 : Below w.heap.size w W9 := by rw [← hW9]; exact (by repeat' (first | (with_reducible exact Below.refl _ _) | (with_reducible assumption) | (with_reducible refine bdrewN _ ?_) | (with_reducible refine Below.alloc ?_ ?_ _) | (with_reducible refine Below.setCell ?_ ?_ _) | (with_reducible refine Below.drew ?_) | go_size | (simp; omega)))
    clear hW9
    obtain ⟨x0, x1, -, -⟩ := b9
    refine bodyPost_ret (by simp [results, Tryz.results163, go_sem, x0, x1]; try rfl) rfl ?_
    exact ⟨ret_frac (by rw [hN.out]; omega) (by rw [hD.out]) rfl, hB9⟩

theorem rmade_any (b : Bool) (n d : Int) (w : World) (hn : 0 ≤ n) (hn' : n ≤ 170141183460469231731687303715884105728) (hd : 0 < d) (hd' : d ≤ 170141183460469231731687303715884105728) (hbn : b = true → 0 < n) :
    Calls Tryz.prog 163 #[.bool b, .agg #[.int .u64 (g0 n), .int .u64 (g1 n), .int .u64 (g2 n), .int .u64 (g3 n)], .agg #[.int .u64 (g0 d), .int .u64 (g1 d), .int .u64 (g2 d), .int .u64 (g3 d)]] w fun e w' => e = .returned (.tuple #[.agg #[.int .i64 (outN (sg b (n / gc n d)) (d / gc n d)), .int .i64 (outD (sg b (n / gc n d)) (d / gc n d))], .int .i64 (outE (sg b (n / gc n d)) (d / gc n d))]) ∧ Below w.heap.size w w' := by
  obtain ⟨q1, q2, q3, q4, q5, q6, q7⟩ := gc_part n d hn hd
  refine rmade_raw b n d (gc n d) (n / gc n d) (d / gc n d) _ _ _ _ _ w hn hn' hd hd' rfl rfl rfl q1 q2 q3 q4 q5 q6 rfl rfl ?_
  generalize n / gc n d = P at *
  generalize d / gc n d = Q at *
  unfold cmpI
  cases b
  · by_cases a1 : P ≤ 9223372036854775807 ∧ Q ≤ 9223372036854775807
    · obtain ⟨e1, e2, e3⟩ := out_yes (p := P) (q := Q) (by omega) a1.1 a1.2
      have e1' : outN (sg false P) Q = P := e1
      have e2' : outD (sg false P) Q = Q := e2
      have e3' : outE (sg false P) Q = 0 := e3
      rw [e1', e2', e3', if_pos (show P < 9223372036854775808 by omega), if_pos (show Q < 9223372036854775808 by omega)]
      simp; omega
    · obtain ⟨e1, e2, e3⟩ := out_no (p := P) (q := Q) (by omega)
      have e1' : outN (sg false P) Q = 0 := e1
      have e2' : outD (sg false P) Q = 0 := e2
      have e3' : outE (sg false P) Q = 10 := e3
      rw [e1', e2', e3']
      split <;> split <;> (try split) <;> (try split) <;> simp <;> omega
  · have hp := q7 (hbn rfl)
    by_cases a1 : P ≤ 9223372036854775808 ∧ Q ≤ 9223372036854775807
    · obtain ⟨e1, e2, e3⟩ := out_yes (p := -P) (q := Q) (by omega) (by omega) a1.2
      have e1' : outN (sg true P) Q = -P := e1
      have e2' : outD (sg true P) Q = Q := e2
      have e3' : outE (sg true P) Q = 0 := e3
      rw [e1', e2', e3', if_pos (show Q < 9223372036854775808 by omega)]
      split <;> (try split) <;> simp <;> omega
    · obtain ⟨e1, e2, e3⟩ := out_no (p := -P) (q := Q) (by omega)
      have e1' : outN (sg true P) Q = 0 := e1
      have e2' : outD (sg true P) Q = 0 := e2
      have e3' : outE (sg true P) Q = 10 := e3
      rw [e1', e2', e3']
      split <;> split <;> (try split) <;> (try split) <;> simp <;> omega

end Go.Proofs.YteipohpfaofchaaGreat

namespace Go.Proofs.YteipohpfaofchaaGreat
open Go.RowKit

set_option maxHeartbeats 400000 in
theorem rof_ex (n : Int) (w : World) (h1 : 0 ≤ n) (h2 : n ≤ 18446744073709551615) :
    Calls Tryz.prog 162 #[.int .u64 n] w fun e w' => e = .returned (.agg #[.int .u64 (g0 n), .int .u64 (g1 n), .int .u64 0, .int .u64 0]) ∧ ∃ c1 c2 : Array Value, w' = (w.alloc (.cells c1 143)).alloc (.cells c2 143) := by
  go_enter Tryz.func162, Tryz.ntmps162
  go_wp2
  go_returns
  exact ⟨ret_big (by unfold g0; rfl) (by unfold g1; omega) rfl rfl, _, _, rfl⟩

set_option maxRecDepth 100000 in
set_option maxHeartbeats 4000000 in
theorem rtimes_raw (x y a0 a1 b0 b1 A B C D N1 N2 N3 : Int) (w : World) (hx : 0 ≤ x) (hx' : x ≤ 18446744073709551615) (hy : 0 ≤ y) (hy' : y ≤ 18446744073709551615) (e0 : g0 x = a0) (e1 : g1 x = a1) (f0 : g0 y = b0) (f1 : g1 y = b1)
    (eA : a0 * b0 = A) (eB : a0 * b1 = B) (eC : a1 * b0 = C) (eD : a1 * b1 = D) (hA : 0 ≤ A) (hA' : A ≤ 18446744065119617025) (hB : 0 ≤ B) (hB' : B ≤ 18446744065119617025) (hC : 0 ≤ C) (hC' : C ≤ 18446744065119617025) (hD : 0 ≤ D) (hD' : D ≤ 18446744065119617025)
    (eN1 : B + A / 4294967296 = N1) (hN1 : 0 ≤ N1) (hN1' : N1 ≤ 18446744073709551615) (eN2 : N1 % 4294967296 + C = N2) (hN2 : 0 ≤ N2) (hN2' : N2 ≤ 18446744073709551615) (eN3 : N1 / 4294967296 + D + N2 / 4294967296 = N3) (hN3 : 0 ≤ N3) (hN3' : N3 ≤ 18446744073709551615) :
    Calls Tryz.prog 131 #[.int .u64 x, .int .u64 y] w fun e w' => e = .returned (.agg #[.int .u64 (A % 4294967296), .int .u64 (N2 % 4294967296), .int .u64 (N3 % 4294967296), .int .u64 (N3 / 4294967296)]) ∧ Below w.heap.size w w' := by
  go_enter Tryz.func131, Tryz.ntmps131
  go_wp2_with fail
  refine (rof_ex x _ hx hx').mono ?_
  rintro e w1 ⟨rfl, c1, c2, rfl⟩
  go_wp2_with fail
  refine (rof_ex y _ hy hy').mono ?_
  rintro e w1 ⟨rfl, c3, c4, rfl⟩
  go_wp2
  refine wp_loop_rounds 3 ?_
  rw [rounds_succ]
  go_wp2
  refine wp_loop_rounds 3 ?_
  rw [rounds_succ]
  go_wp2
  go_quiet (fail)
  go_wp2
  rw [rounds_succ]
  go_wp2
  go_quiet (fail)
  go_wp2
  rw [rounds_succ]
  go_wp2
  rw [rounds_succ]
  go_wp2
  refine wp_loop_rounds 3 ?_
  rw [rounds_succ]
  go_wp2
  go_quiet (fail)
  go_wp2
  rw [rounds_succ]
  go_wp2
  go_quiet (fail)
  go_wp2
  rw [rounds_succ]
  refine wp_world ?_
  intro W hW
  have o0 : W.cell? ⟨w.heap.size + 1 + 1 + 1 + 1 + 1 + 1 + 1, 0, none⟩ = some (.int .u64 (A % 4294967296)) := by rw [hW]; simp (maxDischargeDepth := 12) [go_sem]
  have o1 : W.cell? ⟨w.heap.size + 1 + 1 + 1 + 1 + 1 + 1 + 1, 1, none⟩ = some (.int .u64 (N2 % 4294967296)) := by rw [hW]; simp (maxDischargeDepth := 12) [go_sem]
  have o2 : W.cell? ⟨w.heap.size + 1 + 1 + 1 + 1 + 1 + 1 + 1, 2, none⟩ = some (.int .u64 (N3 % 4294967296)) := by rw [hW]; simp (maxDischargeDepth := 12) [go_sem]
  have o3 : W.cell? ⟨w.heap.size + 1 + 1 + 1 + 1 + 1 + 1 + 1, 3, none⟩ = some (.int .u64 (0)) := by rw [hW]; simp (maxDischargeDepth := 12) [go_sem]
  have p3 : W.frozen? ⟨w.heap.size + 1 + 1 + 1 + 1 + 1 + 1 + 1, 3, none⟩ = false := by rw [hW]; simp (maxDischargeDepth := 12) [go_sem]
  have r0 : W.cell? ⟨w.heap.size, 0, none⟩ = some (.int .u64 0) := by rw [hW]; simp (maxDischargeDepth := 12) [go_sem]
  have s0 : W.frozen? ⟨w.heap.size, 0, none⟩ = false := by rw [hW]; simp (maxDischargeDepth := 12) [go_sem]
  have r1 : W.cell? ⟨w.heap.size, 1, none⟩ = some (.int .u64 0) := by rw [hW]; simp (maxDischargeDepth := 12) [go_sem]
  have s1 : W.frozen? ⟨w.heap.size, 1, none⟩ = false := by rw [hW]; simp (maxDischargeDepth := 12) [go_sem]
  have r2 : W.cell? ⟨w.heap.size, 2, none⟩ = some (.int .u64 0) := by rw [hW]; simp (maxDischargeDepth := 12) [go_sem]
  have s2 : W.frozen? ⟨w.heap.size, 2, none⟩ = false := by rw [hW]; simp (maxDischargeDepth := 12) [go_sem]
  have r3 : W.cell? ⟨w.heap.size, 3, none⟩ = some (.int .u64 0) := by rw [hW]; simp (maxDischargeDepth := 12) [go_sem]
  have s3 : W.frozen? ⟨w.heap.size, 3, none⟩ = false := by rw [hW]; simp (maxDischargeDepth := 12) [go_sem]
  have hBW : Below w.heap.size w W := by rw [hW]; repeat' (first | (with_reducible exact Below.refl _ _) | (with_reducible assumption) | (with_reducible refine bdrewN _ ?_) | (with_reducible refine Below.alloc ?_ ?_ _) | (with_reducible refine Below.setCell ?_ ?_ _) | (with_reducible refine Below.drew ?_) | go_size)
  clear hW eA eB eC eD eN1 eN2 eN3 e0 e1 f0 f1
  go_wp2
  rw [rounds_succ]
  go_wp2
  refine bodyPost_ret (by simp [results, Tryz.results131, go_sem, r0, r1, r2, r3]; try rfl) rfl ?_
  exact ⟨rfl, by repeat' (first | (with_reducible exact Below.refl _ _) | (with_reducible assumption) | (with_reducible refine bdrewN _ ?_) | (with_reducible refine Below.alloc ?_ ?_ _) | (with_reducible refine Below.setCell ?_ ?_ _) | (with_reducible refine Below.drew ?_) | go_size)⟩

theorem rtimes_any (x y : Int) (w : World) (hx : 0 ≤ x) (hx' : x ≤ 18446744073709551615) (hy : 0 ≤ y) (hy' : y ≤ 18446744073709551615) :
    Calls Tryz.prog 131 #[.int .u64 x, .int .u64 y] w fun e w' => e = .returned (.agg #[.int .u64 (g0 (x * y)), .int .u64 (g1 (x * y)), .int .u64 (g2 (x * y)), .int .u64 (g3 (x * y))]) ∧ Below w.heap.size w w' := by
  have a0 := g0_bd x; have a1 := g1_bd x; have b0 := g0_bd y; have b1 := g1_bd y
  have ex : x = g0 x + g1 x * 4294967296 := by unfold g0 g1; omega
  have ey : y = g0 y + g1 y * 4294967296 := by unfold g0 g1; omega
  have A := mul_bd a0.1 a0.2 b0.1 b0.2; have B := mul_bd a0.1 a0.2 b1.1 b1.2; have C := mul_bd a1.1 a1.2 b0.1 b0.2; have D := mul_bd a1.1 a1.2 b1.1 b1.2
  have exy : x * y = g0 x * g0 y + (g0 x * g1 y + g1 x * g0 y) * 4294967296 + g1 x * g1 y * 18446744073709551616 := by
    have h1 : x * y = (g0 x + g1 x * 4294967296) * (g0 y + g1 y * 4294967296) := by rw [← ex, ← ey]
    rw [h1]; grind
  have raw := rtimes_raw x y (g0 x) (g1 x) (g0 y) (g1 y) (g0 x * g0 y) (g0 x * g1 y) (g1 x * g0 y) (g1 x * g1 y) (g0 x * g1 y + g0 x * g0 y / 4294967296) ((g0 x * g1 y + g0 x * g0 y / 4294967296) % 4294967296 + g1 x * g0 y) ((g0 x * g1 y + g0 x * g0 y / 4294967296) / 4294967296 + g1 x * g1 y + ((g0 x * g1 y + g0 x * g0 y / 4294967296) % 4294967296 + g1 x * g0 y) / 4294967296) w hx hx' hy hy' rfl rfl rfl rfl rfl rfl rfl rfl A.1 (by omega) B.1 (by omega) C.1 (by omega) D.1 (by omega) rfl (by omega) (by omega) rfl (by omega) (by omega) rfl (by omega) (by omega)
  refine raw.mono ?_
  rintro e w' ⟨rfl, hb⟩
  generalize g0 x * g0 y = P at *
  generalize g0 x * g1 y = Q at *
  generalize g1 x * g0 y = R at *
  generalize g1 x * g1 y = S at *
  clear raw ex ey a0 a1 b0 b1
  have e : x * y = P % 4294967296 + ((Q + P / 4294967296) % 4294967296 + R) % 4294967296 * 4294967296 + ((Q + P / 4294967296) / 4294967296 + S + ((Q + P / 4294967296) % 4294967296 + R) / 4294967296) % 4294967296 * 18446744073709551616 + ((Q + P / 4294967296) / 4294967296 + S + ((Q + P / 4294967296) % 4294967296 + R) / 4294967296) / 4294967296 * 79228162514264337593543950336 := by
    rw [exy]; clear hb; omega
  obtain ⟨k0, k1, k2, k3⟩ := g_of (P % 4294967296) (((Q + P / 4294967296) % 4294967296 + R) % 4294967296) (((Q + P / 4294967296) / 4294967296 + S + ((Q + P / 4294967296) % 4294967296 + R) / 4294967296) % 4294967296) (((Q + P / 4294967296) / 4294967296 + S + ((Q + P / 4294967296) % 4294967296 + R) / 4294967296) / 4294967296) (by omega) (by omega) (by omega) (by omega)
  rw [← e] at k0 k1 k2 k3
  exact ⟨ret_big k0.symm k1.symm k2.symm k3.symm, hb⟩

end Go.Proofs.YteipohpfaofchaaGreat

namespace Go.Proofs.YteipohpfaofchaaGreat
open Go.RowKit

/-- What made tells, as the least form of a number by its sign and size. -/
theorem rmade_r (b : Bool) (n d : Int) (w : World) (hn : 0 ≤ n) (hn' : n ≤ 170141183460469231731687303715884105728) (hd : 0 < d) (hd' : d ≤ 170141183460469231731687303715884105728) (hbn : b = true → 0 < n) :
    Calls Tryz.prog 163 #[.bool b, .agg #[.int .u64 (g0 n), .int .u64 (g1 n), .int .u64 (g2 n), .int .u64 (g3 n)], .agg #[.int .u64 (g0 d), .int .u64 (g1 d), .int .u64 (g2 d), .int .u64 (g3 d)]] w fun e w' => e = .returned (.tuple #[.agg #[.int .i64 (rN (sg b n) d), .int .i64 (rD (sg b n) d)], .int .i64 (rE (sg b n) d)]) ∧ Below w.heap.size w w' := by
  have h := rmade_any b n d w hn hn' hd hd' hbn
  have e1 := sg_div b n (gc n d) (gc_dvd_left n d hn)
  have e2 : sz (sg b n) = n := by rw [sz_sg, sz_of_nonneg hn]
  unfold rN rD rE
  rw [e2, ← e1]
  exact h

set_option maxHeartbeats 400000 in
theorem rOf_zero (n : Int) (w : World) :
    Calls Tryz.prog 130 #[.int .i64 n, .int .i64 0] w fun e w' => e = .returned (.tuple #[.agg #[.int .i64 0, .int .i64 0], .int .i64 11]) ∧ Below w.heap.size w w' := by
  go_enter Tryz.func130, Tryz.ntmps130
  go_wp2
  go_returns
  exact ⟨rfl, by go_grown⟩

theorem rof_exg (n : Int) (w : World) (h1 : 0 ≤ n) (h2 : n ≤ 18446744073709551615) :
    Calls Tryz.prog 162 #[.int .u64 n] w fun e w' => e = .returned (.agg #[.int .u64 (g0 n), .int .u64 (g1 n), .int .u64 (g2 n), .int .u64 (g3 n)]) ∧ ∃ c1 c2 : Array Value, w' = (w.alloc (.cells c1 143)).alloc (.cells c2 143) := by
  have e2 : g2 n = 0 := by unfold g2; omega
  have e3 : g3 n = 0 := by unfold g3; omega
  rw [e2, e3]; exact rof_ex n w h1 h2

set_option maxRecDepth 100000 in
set_option maxHeartbeats 1000000 in
theorem rOf_raw (b : Bool) (n d : Int) (w : World) (h1 : -9223372036854775808 ≤ n) (h2 : n ≤ 9223372036854775807) (k1 : -9223372036854775808 ≤ d) (k2 : d ≤ 9223372036854775807) (hd : (d == 0) = false) (z1 : 0 ≤ sz n) (z2 : sz n ≤ 9223372036854775808) (z3 : 0 < sz d) (z4 : sz d ≤ 9223372036854775808) (hbn : b = true → 0 < sz n)
    (hc : (n = 0 ∧ b = false) ∨ ((n != 0) = true ∧ b = (decide (n < 0) != decide (d < 0)))) :
    Calls Tryz.prog 130 #[.int .i64 n, .int .i64 d] w fun e w' => e = .returned (.tuple #[.agg #[.int .i64 (rN (sg b (sz n)) (sz d)), .int .i64 (rD (sg b (sz n)) (sz d))], .int .i64 (rE (sg b (sz n)) (sz d))]) ∧ Below w.heap.size w w' := by
  have HM : Hid (∀ W : World, Calls Tryz.prog 163 #[.bool b, .agg #[.int .u64 (g0 (sz n)), .int .u64 (g1 (sz n)), .int .u64 (g2 (sz n)), .int .u64 (g3 (sz n))], .agg #[.int .u64 (g0 (sz d)), .int .u64 (g1 (sz d)), .int .u64 (g2 (sz d)), .int .u64 (g3 (sz d))]] W fun e w' => e = .returned (.tuple #[.agg #[.int .i64 (rN (sg b (sz n)) (sz d)), .int .i64 (rD (sg b (sz n)) (sz d))], .int .i64 (rE (sg b (sz n)) (sz d))]) ∧ Below W.heap.size W w') :=
    fun W => rmade_r b (sz n) (sz d) W z1 (by omega) z3 (by omega) hbn
  clear hbn
  rcases hc with ⟨hn, hb⟩ | ⟨hn, hb⟩
  · subst hn; subst hb
    go_enter Tryz.func130, Tryz.ntmps130
    go_wp2_with (first
      | (go_at_call 132; refine (rsize_any _ _ (by omega) (by omega)).mono ?_; rintro e w' ⟨rfl, rfl⟩)
      | (go_at_call 162; refine (rof_exg _ _ (by omega) (by omega)).mono ?_; rintro e w' ⟨rfl, c1, c2, rfl⟩)
      | (go_at_call 163; refine (HM.out _).mono ?_; rintro e w3 ⟨rfl, hb⟩; obtain ⟨hc, hf, hz, hB⟩ := bf (w := w) (by go_grown) hb; have bR : Hid (Blk2 w3 (w.heap.size) 0 0) := Blk2.below (by constructor <;> simp (maxDischargeDepth := 12) [go_sem]) hb (by go_size)))
    generalize hW9 : World.setCell _ _ _ = W9
    have b9 := bR.out.two (rN (sg false (sz 0)) (sz d)) (rD (sg false (sz 0)) (sz d))
    rw [hW9] at b9
    have hB9 : Below w.heap.size w W9 := by rw [← hW9]; exact Below.setCell (Below.setCell hB (by simp) _) (by simp) _
    clear hW9 hc hf hz hB hb bR
    obtain ⟨x0, x1, -, -⟩ := b9
    refine bodyPost_ret (by simp [results, Tryz.results130, go_sem, x0, x1]; try rfl) rfl ?_
    exact ⟨rfl, hB9⟩
  · have hb' : b = !(decide (n < 0) == decide (d < 0)) := hb
    subst hb'
    clear hb
    go_enter Tryz.func130, Tryz.ntmps130
    go_wp2_with (first
      | (go_at_call 132; refine (rsize_any _ _ (by omega) (by omega)).mono ?_; rintro e w' ⟨rfl, rfl⟩)
      | (go_at_call 162; refine (rof_exg _ _ (by omega) (by omega)).mono ?_; rintro e w' ⟨rfl, c1, c2, rfl⟩)
      | (go_at_call 163; refine (HM.out _).mono ?_; rintro e w3 ⟨rfl, hb⟩; obtain ⟨hc, hf, hz, hB⟩ := bf (w := w) (by go_grown) hb; have bR : Hid (Blk2 w3 (w.heap.size) 0 0) := Blk2.below (by constructor <;> simp (maxDischargeDepth := 12) [go_sem]) hb (by go_size)))
    generalize hW9 : World.setCell _ _ _ = W9
    have b9 := bR.out.two (rN (sg (!(decide (n < 0) == decide (d < 0))) (sz n)) (sz d)) (rD (sg (!(decide (n < 0) == decide (d < 0))) (sz n)) (sz d))
    rw [hW9] at b9
    have hB9 : Below w.heap.size w W9 := by rw [← hW9]; exact Below.setCell (Below.setCell hB (by simp) _) (by simp) _
    clear hW9 hc hf hz hB hb bR
    obtain ⟨x0, x1, -, -⟩ := b9
    refine bodyPost_ret (by simp [results, Tryz.results130, go_sem, x0, x1]; try rfl) rfl ?_
    exact ⟨rfl, hB9⟩

theorem rOf_all (n d : Int) (w : World) (h1 : -9223372036854775808 ≤ n) (h2 : n ≤ 9223372036854775807) (k1 : -9223372036854775808 ≤ d) (k2 : d ≤ 9223372036854775807) :
    Calls Tryz.prog 130 #[.int .i64 n, .int .i64 d] w fun e w' => e = .returned (.tuple #[.agg #[.int .i64 (oN n d), .int .i64 (oD n d)], .int .i64 (oE n d)]) ∧ Below w.heap.size w w' := by
  unfold oN oD oE
  by_cases h : d = 0
  · subst h; simpa using rOf_zero n w
  · rw [if_neg h, if_neg h, if_neg h]
    have z3 : 0 < sz d := by unfold sz; omega
    by_cases hn : n = 0
    · have e : ofP n d = sg false (sz n) := by subst hn; unfold ofP sg sz; simp
      rw [e]
      exact rOf_raw false n d w h1 h2 k1 k2 (by simpa using h) (sz_nonneg n) (sz_le h1 h2) z3 (sz_le k1 k2) (by simp) (Or.inl ⟨hn, rfl⟩)
    · have e : ofP n d = sg (decide (n < 0) != decide (d < 0)) (sz n) := (sg_sz n (decide (d < 0))).symm
      rw [e]
      exact rOf_raw _ n d w h1 h2 k1 k2 (by simpa using h) (sz_nonneg n) (sz_le h1 h2) z3 (sz_le k1 k2) (fun _ => by unfold sz; omega) (Or.inr ⟨by simpa using hn, rfl⟩)

theorem may_neg {n d : Int} (h : d ≤ 0) : mayB n d = false := by
  cases e : mayB n d
  · rfl
  · have := (may_of e).1; omega

set_option maxHeartbeats 400000 in
theorem rmay_any (n d : Int) (w : World) (h1 : -9223372036854775808 ≤ n) (h2 : n ≤ 9223372036854775807) (g1 : -9223372036854775808 ≤ d) (g2 : d ≤ 9223372036854775807) :
    Calls Tryz.prog 104 #[.agg #[.int .i64 n, .int .i64 d]] w fun e w' => e = .returned (.bool (mayB n d)) ∧ Below w.heap.size w w' := by
  by_cases hd : d ≤ 0
  · rw [may_neg hd]
    go_enter Tryz.func104, Tryz.ntmps104
    go_wp2
    go_ret
    exact ⟨rfl, by go_grown⟩
  · have hd2 : (d ≤ 0) = False := by simp; omega
    by_cases a1 : oE n d = 0
    · go_enter Tryz.func104, Tryz.ntmps104
      go_wp2_with (first
        | (go_at_call 130; refine (rOf_all _ _ _ h1 h2 g1 g2).mono ?_; rintro e w1 ⟨rfl, hb⟩; obtain ⟨hc, hf, hz, hB⟩ := bf (w := w) (by go_grown) hb; simp only [World.size_alloc] at hz; have z0 : w.heap.size < w1.heap.size := by omega))
      all_goals
        go_ret
        exact ⟨by simp [mayB, *], by go_grown⟩
    · have a2 : (oE n d == 0) = false := by simpa using a1
      go_enter Tryz.func104, Tryz.ntmps104
      go_wp2_with (first
        | (go_at_call 130; refine (rOf_all _ _ _ h1 h2 g1 g2).mono ?_; rintro e w1 ⟨rfl, hb⟩; obtain ⟨hc, hf, hz, hB⟩ := bf (w := w) (by go_grown) hb; simp only [World.size_alloc] at hz; have z0 : w.heap.size < w1.heap.size := by omega))
      all_goals
        go_ret
        exact ⟨by simp [mayB, a2], by go_grown⟩

end Go.Proofs.YteipohpfaofchaaGreat

namespace Go.Proofs.YteipohpfaofchaaGreat
open Go.RowKit Go.Shelf

theorem size_empty {s : ByteArray} (h : s.toList.isEmpty = true) : s.size = 0 := by
  rw [ByteArray.toList_eq] at h
  cases hl : s.data.toList with
  | nil =>
    have h3 : s.data.toList.length = 0 := by rw [hl]; rfl
    exact h3
  | cons a b => rw [hl] at h; exact Bool.noConfusion h

set_option maxRecDepth 100000 in
set_option maxHeartbeats 400000 in
theorem rfrac_any (k n d : Int) (s : ByteArray) (w : World) :
    Calls Tryz.prog 105 #[.agg #[.int .i64 k, .int .i64 n, .int .i64 d, .string s]] w fun e w' => e = .returned (.agg #[.int .i64 n, .int .i64 d]) ∧ Below w.heap.size w w' := by
  go_enter Tryz.func105, Tryz.ntmps105
  go_wp2
  go_returns
  exact ⟨rfl, by go_grown⟩

set_option maxRecDepth 100000 in
set_option maxHeartbeats 1000000 in
theorem rcheck_1 (n d : Int) (s : ByteArray) (w : World) :
    Calls Tryz.prog 70 #[.agg #[.int .i64 1, .int .i64 n, .int .i64 d, .string s]] w fun e w' => e = .returned (.int .i64 (chk 1 n d s)) ∧ Below w.heap.size w w' := by
  cases hd : d == 0
  · have e0 : chk 1 n d s = 20 := by simp [chk, pureB, hd]
    have d1 : ¬ d = 0 := by simpa using hd
    have d2 : (d != 0) = true := by simpa using d1
    rw [e0]
    go_enter Tryz.func70, Tryz.ntmps70
    go_wp2
    go_ret
    exact ⟨rfl, by go_grown⟩
  · have hd' : d = 0 := by simpa using hd
    subst hd'
    cases hs : s.toList.isEmpty
    · have e0 : chk 1 n 0 s = 20 := by simp [chk, pureB, hs]
      rw [e0]
      go_enter Tryz.func70, Tryz.ntmps70
      go_wp2
      go_ret
      exact ⟨rfl, by go_grown⟩
    · have e0 : chk 1 n 0 s = 0 := by have := size_empty hs; simp [chk, pureB, hs, this]
      rw [e0]
      go_enter Tryz.func70, Tryz.ntmps70
      go_wp2
      go_ret
      exact ⟨rfl, by go_grown⟩

set_option maxRecDepth 100000 in
set_option maxHeartbeats 1000000 in
theorem rcheck_2 (n d : Int) (s : ByteArray) (w : World) (h1 : -9223372036854775808 ≤ n) (h2 : n ≤ 9223372036854775807) (g1 : -9223372036854775808 ≤ d) (g2 : d ≤ 9223372036854775807) :
    Calls Tryz.prog 70 #[.agg #[.int .i64 2, .int .i64 n, .int .i64 d, .string s]] w fun e w' => e = .returned (.int .i64 (chk 2 n d s)) ∧ Below w.heap.size w w' := by
  cases hs : s.toList.isEmpty
  · have e0 : chk 2 n d s = 20 := by simp [chk, pureB, hs]
    rw [e0]
    go_enter Tryz.func70, Tryz.ntmps70
    go_wp2_with fail
    refine (rfrac_any 2 n d s _).mono ?_
    rintro e w1 ⟨rfl, hb1⟩
    go_wp2_with fail
    refine (rmay_any n d _ h1 h2 g1 g2).mono ?_
    rintro e w2 ⟨rfl, hb2⟩
    obtain ⟨hc, hf, hz, hB⟩ := bf (w := w) (by go_grown) (hb1.trans (hb2.mono hb1.size))
    simp only [World.size_alloc] at hz
    have z0 : w.heap.size < w2.heap.size := by omega
    go_wp2
    go_ret
    exact ⟨rfl, hB⟩
  · have z := size_empty hs
    cases hm : mayB n d
    · have e0 : chk 2 n d s = 20 := by simp [chk, pureB, hm]
      rw [e0]
      go_enter Tryz.func70, Tryz.ntmps70
      go_wp2_with fail
      refine (rfrac_any 2 n d s _).mono ?_
      rintro e w1 ⟨rfl, hb1⟩
      go_wp2_with fail
      refine (rmay_any n d _ h1 h2 g1 g2).mono ?_
      rintro e w2 ⟨rfl, hb2⟩
      obtain ⟨hc, hf, hz, hB⟩ := bf (w := w) (by go_grown) (hb1.trans (hb2.mono hb1.size))
      simp only [World.size_alloc] at hz
      have z0 : w.heap.size < w2.heap.size := by omega
      rw [hm]
      go_wp2
      go_ret
      exact ⟨rfl, hB⟩
    · have e0 : chk 2 n d s = 0 := by simp [chk, pureB, hm, hs, z]
      rw [e0]
      go_enter Tryz.func70, Tryz.ntmps70
      go_wp2_with fail
      refine (rfrac_any 2 n d s _).mono ?_
      rintro e w1 ⟨rfl, hb1⟩
      go_wp2_with fail
      refine (rmay_any n d _ h1 h2 g1 g2).mono ?_
      rintro e w2 ⟨rfl, hb2⟩
      obtain ⟨hc, hf, hz, hB⟩ := bf (w := w) (by go_grown) (hb1.trans (hb2.mono hb1.size))
      simp only [World.size_alloc] at hz
      have z0 : w.heap.size < w2.heap.size := by omega
      rw [hm]
      go_wp2
      go_ret
      exact ⟨rfl, hB⟩

set_option maxRecDepth 100000 in
set_option maxHeartbeats 1000000 in
theorem rcheck_3 (n d : Int) (s : ByteArray) (w : World) :
    Calls Tryz.prog 70 #[.agg #[.int .i64 3, .int .i64 n, .int .i64 d, .string s]] w fun e w' => e = .returned (.int .i64 (chk 3 n d s)) ∧ Below w.heap.size w w' := by
  cases hn : n == 0
  · have e0 : chk 3 n d s = 20 := by simp [chk, pureB, hn]
    have d1 : ¬ n = 0 := by simpa using hn
    have d2 : (n != 0) = true := by simpa using d1
    rw [e0]
    go_enter Tryz.func70, Tryz.ntmps70
    go_wp2
    go_ret
    exact ⟨rfl, by go_grown⟩
  · have hn' : n = 0 := by simpa using hn
    subst hn'
    cases hd : d == 0
    · have e0 : chk 3 0 d s = 20 := by simp [chk, pureB, hd]
      have d1 : ¬ d = 0 := by simpa using hd
      have d2 : (d != 0) = true := by simpa using d1
      rw [e0]
      go_enter Tryz.func70, Tryz.ntmps70
      go_wp2
      go_ret
      exact ⟨rfl, by go_grown⟩
    · have hd' : d = 0 := by simpa using hd
      subst hd'
      by_cases hl : 64 < s.size
      · have e0 : chk 3 0 0 s = 2 := by simp [chk, pureB, hl]
        rw [e0]
        have hl' : (64 : Int) < s.size := by omega
        go_enter Tryz.func70, Tryz.ntmps70
        go_wp2
        go_ret
        exact ⟨rfl, by go_grown⟩
      · have e0 : chk 3 0 0 s = 0 := by simp [chk, pureB, hl]
        rw [e0]
        have hl' : ((64 : Int) < s.size) = False := by simp; omega
        go_enter Tryz.func70, Tryz.ntmps70
        go_wp2
        go_ret
        exact ⟨rfl, by go_grown⟩

set_option maxRecDepth 100000 in
set_option maxHeartbeats 1000000 in
theorem rcheck_any (k n d : Int) (s : ByteArray) (w : World) (h1 : -9223372036854775808 ≤ n) (h2 : n ≤ 9223372036854775807) (g1 : -9223372036854775808 ≤ d) (g2 : d ≤ 9223372036854775807) :
    Calls Tryz.prog 70 #[.agg #[.int .i64 k, .int .i64 n, .int .i64 d, .string s]] w fun e w' => e = .returned (.int .i64 (chk k n d s)) ∧ Below w.heap.size w w' := by
  by_cases k1 : k = 1
  · subst k1; exact rcheck_1 n d s w
  · by_cases k2 : k = 2
    · subst k2; exact rcheck_2 n d s w h1 h2 g1 g2
    · by_cases k3 : k = 3
      · subst k3; exact rcheck_3 n d s w
      · have e0 : chk k n d s = 20 := by simp [chk, pureB, k1, k2, k3]
        rw [e0]
        have k1' : (k == 1) = false := by simpa using k1
        have k2' : (k == 2) = false := by simpa using k2
        have k3' : (k == 3) = false := by simpa using k3
        go_enter Tryz.func70, Tryz.ntmps70
        go_wp2
        go_ret
        exact ⟨rfl, by go_grown⟩

end Go.Proofs.YteipohpfaofchaaGreat

namespace Go.Proofs.YteipohpfaofchaaGreat
open Go.RowKit Go.Shelf

/-- Are two values the same? -/
def sameB (k n d : Int) (s : ByteArray) (k' n' d' : Int) (s' : ByteArray) : Bool := k == k' && (n == n' && (d == d' && s.toList == s'.toList))

set_option maxRecDepth 100000 in
set_option maxHeartbeats 1000000 in
theorem sizes_any (a b : Int) (w : World) :
    Calls Tryz.prog 72 #[.int .i64 a, .int .i64 b] w fun e w' => e = .returned (.int .i64 (Lib.compareInt a b)) ∧ w' = w := by
  by_cases h1 : a < b
  · have e0 : Lib.compareInt a b = -1 := by simp [Lib.compareInt, h1]
    rw [e0]
    go_enter Tryz.func72, Tryz.ntmps72
    go_wp2
    go_ret
    exact ⟨rfl, rfl⟩
  · have h1' : (a < b) = False := by simp; omega
    by_cases h2 : b < a
    · have e0 : Lib.compareInt a b = 1 := by simp [Lib.compareInt, h1, h2]
      rw [e0]
      go_enter Tryz.func72, Tryz.ntmps72
      go_wp2
      go_ret
      exact ⟨rfl, rfl⟩
    · have h2' : (b < a) = False := by simp; omega
      have e0 : Lib.compareInt a b = 0 := by simp [Lib.compareInt, h1, h2]
      rw [e0]
      go_enter Tryz.func72, Tryz.ntmps72
      go_wp2
      go_ret
      exact ⟨rfl, rfl⟩

theorem at_drop (s : ByteArray) (k : Nat) (h : k < s.size) : s.data.toList.drop k = s[k] :: s.data.toList.drop (k + 1) := by
  have h' : k < s.data.toList.length := by simpa using h
  rw [List.drop_eq_getElem_cons h']
  rfl
theorem drop_all (s : ByteArray) (k : Nat) (h : s.size ≤ k) : s.data.toList.drop k = [] := List.drop_of_length_le (by simpa using h)

theorem cb_end (a b : ByteArray) (k : Nat) (ha : k ≤ a.size) (hb : k ≤ b.size) (h : k = a.size ∨ k = b.size) : Lib.compareBytes (a.data.toList.drop k) (b.data.toList.drop k) = Lib.compareInt a.size b.size := by
  by_cases h1 : k < a.size
  · rw [at_drop a k h1, drop_all b k (by omega)]
    simp only [Lib.compareBytes, Lib.compareInt]
    rw [if_neg (by omega), if_pos (by omega)]
  · rw [drop_all a k (by omega)]
    by_cases h2 : k < b.size
    · rw [at_drop b k h2]
      simp only [Lib.compareBytes, Lib.compareInt]
      rw [if_pos (by omega)]
    · rw [drop_all b k (by omega)]
      simp only [Lib.compareBytes, Lib.compareInt]
      rw [if_neg (by omega), if_neg (by omega)]
theorem cb_step (a b : ByteArray) (k : Nat) (ha : k < a.size) (hb : k < b.size) : Lib.compareBytes (a.data.toList.drop k) (b.data.toList.drop k) = if (a[k].toNat : Int) < b[k].toNat then -1 else if (b[k].toNat : Int) < a[k].toNat then 1 else Lib.compareBytes (a.data.toList.drop (k + 1)) (b.data.toList.drop (k + 1)) := by
  rw [at_drop a k ha, at_drop b k hb]
  simp only [Lib.compareBytes, UInt8.lt_iff_toNat_lt, Int.ofNat_lt]

set_option maxRecDepth 100000 in
set_option maxHeartbeats 2000000 in
theorem texts_any (a b : ByteArray) (w : World) (za : a.size ≤ 140737488355328) (zb : b.size ≤ 140737488355328) :
    Calls Tryz.prog 107 #[.string a, .string b] w fun e w' => e = .returned (.int .i64 (Lib.compareBytes a.data.toList b.data.toList)) ∧ Below w.heap.size w w' := by
  go_enter Tryz.func107, Tryz.ntmps107
  go_wp2
  go_loopw [5] (fun i wr => ∃ k : Nat, k ≤ a.size ∧ k ≤ b.size ∧ i = .int .i64 k ∧ Hid (Lib.compareBytes (a.data.toList.drop k) (b.data.toList.drop k) = Lib.compareBytes a.data.toList b.data.toList) ∧ Below w.heap.size w wr) (fun i _ => a.size - (intOf i).toNat)
  case atStart => exact ⟨0, by omega, by omega, rfl, rfl, Below.refl _ w⟩
  case round =>
    obtain ⟨k, hk, hk', rfl, hE, hB⟩ := hrel
    by_cases h1 : k = a.size ∨ k = b.size
    · have e0 := cb_end a b k hk hk' h1
      rw [hE.out] at e0
      have E0 : Hid (Lib.compareBytes a.data.toList b.data.toList = Lib.compareInt a.size b.size) := e0
      clear hE e0
      by_cases h2 : k = a.size
      · have h3 : ((k : Int) < a.size) = False := by simp; omega
        go_wp2_with fail
        refine (sizes_any _ _ _).mono ?_
        rintro e w1 ⟨rfl, rfl⟩
        go_wp2
        go_ret
        exact ⟨ret_int E0.out.symm, hB⟩
      · have h3 : (k : Int) < a.size := by omega
        have h4 : ((k : Int) < b.size) = False := by simp; omega
        clear h1 h2
        go_wp2_with fail
        refine (sizes_any _ _ _).mono ?_
        rintro e w1 ⟨rfl, rfl⟩
        go_wp2
        go_ret
        exact ⟨ret_int E0.out.symm, hB⟩
    · have ha : k < a.size := by omega
      have hb : k < b.size := by omega
      have e0 := cb_step a b k ha hb
      rw [hE.out] at e0
      have ha' : (k : Int) < a.size := by omega
      have hb' : (k : Int) < b.size := by omega
      obtain ⟨x, hx⟩ : ∃ x : UInt8, a[k] = x := ⟨_, rfl⟩
      obtain ⟨y, hy⟩ : ∃ y : UInt8, b[k] = y := ⟨_, rfl⟩
      rw [hx, hy] at e0
      clear hE h1
      by_cases h1 : (x.toNat : Int) < y.toNat
      · rw [if_pos h1] at e0
        have E0 : Hid (Lib.compareBytes a.data.toList b.data.toList = -1) := e0
        clear e0
        go_wp2_with fail
        go_quiet (fail)
        go_wp2
        go_ret
        exact ⟨ret_int E0.out.symm, by repeat' (first | (with_reducible assumption) | (with_reducible refine bdrewN _ ?_))⟩
      · have h1' : ((x.toNat : Int) < y.toNat) = False := by simp; omega
        rw [if_neg h1] at e0
        by_cases h2 : (y.toNat : Int) < x.toNat
        · rw [if_pos h2] at e0
          have E0 : Hid (Lib.compareBytes a.data.toList b.data.toList = 1) := e0
          clear e0 h1
          go_wp2_with fail
          go_quiet (fail)
          go_wp2_with fail
          go_quiet (fail)
          go_wp2
          go_ret
          exact ⟨ret_int E0.out.symm, by repeat' (first | (with_reducible assumption) | (with_reducible refine bdrewN _ ?_))⟩
        · have h2' : ((y.toNat : Int) < x.toNat) = False := by simp; omega
          rw [if_neg h2] at e0
          have E0 : Hid (Lib.compareBytes (a.data.toList.drop (k + 1)) (b.data.toList.drop (k + 1)) = Lib.compareBytes a.data.toList b.data.toList) := e0.symm
          clear e0 h1 h2
          go_wp2_with fail
          go_quiet (fail)
          go_wp2_with fail
          go_quiet (fail)
          go_wp2
          refine ⟨⟨k + 1, by omega, by omega, by simp, E0, by repeat' (first | (with_reducible assumption) | (with_reducible refine bdrewN _ ?_))⟩, by simp [intOf]; omega⟩

set_option maxRecDepth 100000 in
set_option maxHeartbeats 1000000 in
theorem rsame_any (k n d : Int) (s : ByteArray) (k' n' d' : Int) (s' : ByteArray) (w : World) :
    Calls Tryz.prog 73 #[.agg #[.int .i64 k, .int .i64 n, .int .i64 d, .string s], .agg #[.int .i64 k', .int .i64 n', .int .i64 d', .string s']] w fun e w' => e = .returned (.bool (sameB k n d s k' n' d' s')) ∧ Below w.heap.size w w' := by
  by_cases hk : k = k'
  · subst hk
    by_cases hn : n = n'
    · subst hn
      by_cases hd : d = d'
      · subst hd
        go_enter Tryz.func73, Tryz.ntmps73
        go_wp2
        go_ret
        exact ⟨ret_bool (by simp [sameB]), by go_grown⟩
      · have e1 : (d == d') = false := by simpa using hd
        go_enter Tryz.func73, Tryz.ntmps73
        go_wp2
        go_ret
        exact ⟨ret_bool (by simp [sameB, hd]), by go_grown⟩
    · have e1 : (n == n') = false := by simpa using hn
      go_enter Tryz.func73, Tryz.ntmps73
      go_wp2
      go_ret
      exact ⟨ret_bool (by simp [sameB, hn]), by go_grown⟩
  · have e1 : (k == k') = false := by simpa using hk
    go_enter Tryz.func73, Tryz.ntmps73
    go_wp2
    go_ret
    exact ⟨ret_bool (by simp [sameB, hk]), by go_grown⟩

set_option maxRecDepth 100000 in
set_option maxHeartbeats 1000000 in
theorem vsame_any (k n d : Int) (s : ByteArray) (k' n' d' : Int) (s' : ByteArray) (w : World) :
    Calls Tryz.prog 89 #[.agg #[.int .i64 k, .int .i64 n, .int .i64 d, .string s], .agg #[.int .i64 k', .int .i64 n', .int .i64 d', .string s']] w fun e w' => e = .returned (.bool (sameB k n d s k' n' d' s')) ∧ Below w.heap.size w w' := by
  go_enter Tryz.func89, Tryz.ntmps89
  go_wp2
  all_goals
    go_ret
    exact ⟨ret_bool (by simp_all [sameB]), by go_grown⟩

end Go.Proofs.YteipohpfaofchaaGreat

namespace Go.Proofs.YteipohpfaofchaaGreat
open Go.RowKit Go.Shelf

set_option maxRecDepth 100000 in
theorem nan64 (x : Int) (w : World) : Calls Tryz.prog 171 #[.int .i64 x] w fun e w' => e = .returned (.bool false) ∧ w' = w := by
  go_enter Tryz.func171, Tryz.ntmps171
  go_wp2
  go_ret
  exact ⟨ret_bool (by simp), rfl⟩

set_option maxRecDepth 100000 in
theorem cmp64 (x y : Int) (w : World) : Calls Tryz.prog 159 #[.int .i64 x, .int .i64 y] w fun e w' => e = .returned (.int .i64 (Lib.compareInt x y)) ∧ w' = w := by
  by_cases h1 : x < y
  · have e0 : Lib.compareInt x y = -1 := by simp [Lib.compareInt, h1]
    rw [e0]
    go_enter Tryz.func159, Tryz.ntmps159
    go_wp2_with fail
    refine (nan64 x _).mono ?_
    rintro e w1 ⟨rfl, rfl⟩
    go_wp2_with fail
    refine (nan64 y _).mono ?_
    rintro e w2 ⟨rfl, rfl⟩
    go_wp2
    go_ret
    exact ⟨rfl, rfl⟩
  · have h1' : (x < y) = False := by simp; omega
    by_cases h2 : y < x
    · have e0 : Lib.compareInt x y = 1 := by simp [Lib.compareInt, h1, h2]
      rw [e0]
      go_enter Tryz.func159, Tryz.ntmps159
      go_wp2_with fail
      refine (nan64 x _).mono ?_
      rintro e w1 ⟨rfl, rfl⟩
      go_wp2_with fail
      refine (nan64 y _).mono ?_
      rintro e w2 ⟨rfl, rfl⟩
      go_wp2
      go_ret
      exact ⟨rfl, rfl⟩
    · have h2' : (y < x) = False := by simp; omega
      have e0 : Lib.compareInt x y = 0 := by simp [Lib.compareInt, h1, h2]
      rw [e0]
      go_enter Tryz.func159, Tryz.ntmps159
      go_wp2_with fail
      refine (nan64 x _).mono ?_
      rintro e w1 ⟨rfl, rfl⟩
      go_wp2_with fail
      refine (nan64 y _).mono ?_
      rintro e w2 ⟨rfl, rfl⟩
      go_wp2
      go_ret
      exact ⟨rfl, rfl⟩

set_option maxRecDepth 100000 in
set_option maxHeartbeats 1000000 in
theorem by_number (k n d : Int) (s : ByteArray) (k' n' d' : Int) (s' : ByteArray) (w : World) :
    Calls Tryz.prog 127 #[.agg #[.int .i64 k, .int .i64 n, .int .i64 d, .string s], .agg #[.int .i64 k', .int .i64 n', .int .i64 d', .string s']] w fun e w' => e = .returned (.int .i64 (Lib.compareInt n n')) ∧ Below w.heap.size w w' := by
  go_enter Tryz.func127, Tryz.ntmps127
  go_wp2_with fail
  refine (cmp64 n n' _).mono ?_
  rintro e w1 ⟨rfl, rfl⟩
  go_wp2
  go_ret
  exact ⟨rfl, by go_grown⟩

set_option maxRecDepth 100000 in
set_option maxHeartbeats 1000000 in
theorem by_bytes (k n d : Int) (s : ByteArray) (k' n' d' : Int) (s' : ByteArray) (w : World) :
    Calls Tryz.prog 129 #[.agg #[.int .i64 k, .int .i64 n, .int .i64 d, .string s], .agg #[.int .i64 k', .int .i64 n', .int .i64 d', .string s']] w fun e w' => e = .returned (.int .i64 (Lib.compareBytes s.data.toList s'.data.toList)) ∧ Below w.heap.size w w' := by
  go_enter Tryz.func129, Tryz.ntmps129
  go_wp2_with fail
  refine (Tryz.strings_Compare s s' _).mono ?_
  rintro e w1 ⟨rfl, rfl⟩
  go_wp2
  go_ret
  exact ⟨rfl, by go_grown⟩

set_option maxRecDepth 100000 in
set_option maxHeartbeats 4000000 in
theorem by_worth (n d : Int) (s : ByteArray) (n' d' : Int) (s' : ByteArray) (w : World) (h1 : -9223372036854775808 ≤ n) (h2 : n ≤ 9223372036854775807) (g1 : -9223372036854775808 ≤ d) (g2 : d ≤ 9223372036854775807) (h1' : -9223372036854775808 ≤ n') (h2' : n' ≤ 9223372036854775807) (g1' : -9223372036854775808 ≤ d') (g2' : d' ≤ 9223372036854775807) :
    Calls Tryz.prog 128 #[.agg #[.int .i64 2, .int .i64 n, .int .i64 d, .string s], .agg #[.int .i64 2, .int .i64 n', .int .i64 d', .string s']] w fun e w' => e = .returned (.int .i64 (cmpV n d n' d')) ∧ Below w.heap.size w w' := by
  go_enter Tryz.func128, Tryz.ntmps128
  go_upto_region 1 with fail
  refine wp_world ?_
  intro W0 hW0
  have A : BlkV W0 w.heap.size 2 n d s := by rw [hW0]; constructor <;> simp (maxDischargeDepth := 12) [go_sem]
  have B : BlkV W0 (w.heap.size + 1) 2 n' d' s' := by rw [hW0]; constructor <;> simp (maxDischargeDepth := 12) [go_sem]
  have z0 : w.heap.size + 1 < W0.heap.size := by rw [hW0]; simp
  have L0 : Below w.heap.size w W0 := by rw [hW0]; go_grown
  have up : ∀ w9, Below W0.heap.size W0 w9 → Below w.heap.size w w9 := fun _ g => L0.trans (g.mono L0.size)
  clear hW0
  obtain ⟨a0, a1, a2, a3, -, -, -, -⟩ := A
  obtain ⟨b0, b1, b2, b3, -, -, -, -⟩ := B
  have z_a : w.heap.size < W0.heap.size := by omega
  go_region_held3 (fun w' => w'.cell? ⟨w.heap.size, 0, none⟩ = some (.int .i64 2) ∧ w'.cell? ⟨w.heap.size, 1, none⟩ = some (.int .i64 n) ∧ w'.cell? ⟨w.heap.size, 2, none⟩ = some (.int .i64 d) ∧ w'.cell? ⟨w.heap.size, 3, none⟩ = some (.string s) ∧ w'.cell? ⟨w.heap.size + 1, 0, none⟩ = some (.int .i64 2) ∧ w'.cell? ⟨w.heap.size + 1, 1, none⟩ = some (.int .i64 n') ∧ w'.cell? ⟨w.heap.size + 1, 2, none⟩ = some (.int .i64 d') ∧ w'.cell? ⟨w.heap.size + 1, 3, none⟩ = some (.string s')) (exact keep8 (show Below W0.heap.size W0 _ from (by repeat' (first | (with_reducible exact Below.refl _ _) | (with_reducible assumption) | (with_reducible refine bdrewN _ ?_) | (with_reducible refine Below.alloc ?_ ?_ _) | (with_reducible refine Below.drew ?_) | go_size))) a0 a1 a2 a3 b0 b1 b2 b3 z_a z0)
    (first
      | (go_at_call 161; refine (frac_any _ _ _ _ _).mono ?_; rintro e wa ⟨rfl, ca1, ca2, rfl⟩)
      | (go_at_call 160; refine (cmp_all n d n' d' _ h1 h2 g1 g2 h1' h2' g1' g2').mono ?_; rintro e w1 ⟨rfl, hb1⟩; obtain ⟨hc1, hf1, hz1, hB1, hn1, hm1⟩ := bg (n := W0.heap.size) (W0 := W0) (by repeat' (first | (with_reducible exact Below.refl _ _) | (with_reducible assumption) | (with_reducible refine bdrewN _ ?_) | (with_reducible refine Below.alloc ?_ ?_ _) | (with_reducible refine Below.drew ?_) | go_size)) (by go_size) hb1; clear hm1))
  all_goals
    go_wp2
    go_ret
    refine ⟨rfl, up _ ?_⟩
    repeat' (first | (with_reducible exact Below.refl _ _) | (with_reducible assumption) | (with_reducible refine bdrewN _ ?_) | (with_reducible refine Below.alloc ?_ ?_ _) | (with_reducible refine Below.drew ?_) | go_size)

set_option maxRecDepth 100000 in
set_option maxHeartbeats 400000 in
theorem otab_ex (w : World) :
    Calls Tryz.prog 102 #[] w fun e w' => e = .returned (.agg #[.nilFunc, .func (.func 127) #[] #[], .func (.func 128) #[] #[], .func (.func 129) #[] #[]]) ∧ ∃ c1 : Array Value, w' = w.alloc (.cells c1 109) := by
  go_enter Tryz.func102, Tryz.ntmps102
  go_wp2
  go_returns
  exact ⟨rfl, _, rfl⟩

set_option maxRecDepth 100000 in
theorem io1 (W : World) : (Instr.index 109 (.agg #[.nilFunc, .func (.func 127) #[] #[], .func (.func 128) #[] #[], .func (.func 129) #[] #[]]) (.int .i64 1)).run Tryz.prog W = .ok (.func (.func 127) #[] #[]) W := by
  simp [Instr.index, run_underlying Tryz.underlying109, asIntOf, part, isAgg, run_underlying Tryz.underlying108, go_sem]
set_option maxRecDepth 100000 in
theorem io2 (W : World) : (Instr.index 109 (.agg #[.nilFunc, .func (.func 127) #[] #[], .func (.func 128) #[] #[], .func (.func 129) #[] #[]]) (.int .i64 2)).run Tryz.prog W = .ok (.func (.func 128) #[] #[]) W := by
  simp [Instr.index, run_underlying Tryz.underlying109, asIntOf, part, isAgg, run_underlying Tryz.underlying108, go_sem]
set_option maxRecDepth 100000 in
theorem io3 (W : World) : (Instr.index 109 (.agg #[.nilFunc, .func (.func 127) #[] #[], .func (.func 128) #[] #[], .func (.func 129) #[] #[]]) (.int .i64 3)).run Tryz.prog W = .ok (.func (.func 129) #[] #[]) W := by
  simp [Instr.index, run_underlying Tryz.underlying109, asIntOf, part, isAgg, run_underlying Tryz.underlying108, go_sem]

end Go.Proofs.YteipohpfaofchaaGreat
