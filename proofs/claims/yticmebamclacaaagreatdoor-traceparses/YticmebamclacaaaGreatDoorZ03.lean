/- (empty) -/
import Derived.Test.YticmebamclacaaaGreatDoorZ02
import Derived.Handy
import Derived.ChangeKeysEq
import Derived.Deep.Cut
import Derived.BigQuiet
import Derived.Deep.DeepCutAuto
import Derived.ArgAppend
import Derived.Laws.OwnMore
import Derived.Test.YticmebamclacaaaGreatDoorZ01

namespace Go.Proofs.YticmebamclacaaaGreatDoor
open Go.RowKit

/-- A block of four digits, which may be written. -/
structure Blk (W : World) (B : Nat) (v0 v1 v2 v3 : Int) : Prop where
  c0 : W.cell? ⟨B, 0, none⟩ = some (.int .u64 v0)
  c1 : W.cell? ⟨B, 1, none⟩ = some (.int .u64 v1)
  c2 : W.cell? ⟨B, 2, none⟩ = some (.int .u64 v2)
  c3 : W.cell? ⟨B, 3, none⟩ = some (.int .u64 v3)
  f0 : W.frozen? ⟨B, 0, none⟩ = false
  f1 : W.frozen? ⟨B, 1, none⟩ = false
  f2 : W.frozen? ⟨B, 2, none⟩ = false
  f3 : W.frozen? ⟨B, 3, none⟩ = false

theorem Blk.below {W W' : World} {B n : Nat} {v0 v1 v2 v3 : Int} (h : Blk W B v0 v1 v2 v3) (hb : Below n W W') (hB : B < n) : Blk W' B v0 v1 v2 v3 :=
  ⟨(hb.cell (p := ⟨B, 0, none⟩) hB).trans h.c0, (hb.cell (p := ⟨B, 1, none⟩) hB).trans h.c1, (hb.cell (p := ⟨B, 2, none⟩) hB).trans h.c2, (hb.cell (p := ⟨B, 3, none⟩) hB).trans h.c3,
   (hb.frozen (p := ⟨B, 0, none⟩) hB).trans h.f0, (hb.frozen (p := ⟨B, 1, none⟩) hB).trans h.f1, (hb.frozen (p := ⟨B, 2, none⟩) hB).trans h.f2, (hb.frozen (p := ⟨B, 3, none⟩) hB).trans h.f3⟩

theorem Blk.set0 {W : World} {B : Nat} {v0 v1 v2 v3 : Int} (h : Blk W B v0 v1 v2 v3) (x : Int) : Blk (W.setCell ⟨B, 0, none⟩ (.int .u64 x)) B x v1 v2 v3 := by
  obtain ⟨c0, c1, c2, c3, f0, f1, f2, f3⟩ := h
  constructor <;> simp (maxDischargeDepth := 12) [go_sem, c0, c1, c2, c3, f0, f1, f2, f3]
theorem Blk.set1 {W : World} {B : Nat} {v0 v1 v2 v3 : Int} (h : Blk W B v0 v1 v2 v3) (x : Int) : Blk (W.setCell ⟨B, 1, none⟩ (.int .u64 x)) B v0 x v2 v3 := by
  obtain ⟨c0, c1, c2, c3, f0, f1, f2, f3⟩ := h
  constructor <;> simp (maxDischargeDepth := 12) [go_sem, c0, c1, c2, c3, f0, f1, f2, f3]
theorem Blk.set2 {W : World} {B : Nat} {v0 v1 v2 v3 : Int} (h : Blk W B v0 v1 v2 v3) (x : Int) : Blk (W.setCell ⟨B, 2, none⟩ (.int .u64 x)) B v0 v1 x v3 := by
  obtain ⟨c0, c1, c2, c3, f0, f1, f2, f3⟩ := h
  constructor <;> simp (maxDischargeDepth := 12) [go_sem, c0, c1, c2, c3, f0, f1, f2, f3]
theorem Blk.set3 {W : World} {B : Nat} {v0 v1 v2 v3 : Int} (h : Blk W B v0 v1 v2 v3) (x : Int) : Blk (W.setCell ⟨B, 3, none⟩ (.int .u64 x)) B v0 v1 v2 x := by
  obtain ⟨c0, c1, c2, c3, f0, f1, f2, f3⟩ := h
  constructor <;> simp (maxDischargeDepth := 12) [go_sem, c0, c1, c2, c3, f0, f1, f2, f3]
theorem Blk.other {W : World} {B C o : Nat} {v0 v1 v2 v3 : Int} {x : Value} (h : Blk W C v0 v1 v2 v3) (hne : C ≠ B) : Blk (W.setCell ⟨B, o, none⟩ x) C v0 v1 v2 v3 := by
  obtain ⟨c0, c1, c2, c3, f0, f1, f2, f3⟩ := h
  constructor <;> simp (maxDischargeDepth := 12) [go_sem, c0, c1, c2, c3, f0, f1, f2, f3]
theorem Blk.four {W : World} {B : Nat} {v0 v1 v2 v3 : Int} (h : Blk W B v0 v1 v2 v3) (x0 x1 x2 x3 : Int) : Blk ((((W.setCell ⟨B, 0, none⟩ (.int .u64 x0)).setCell ⟨B, 1, none⟩ (.int .u64 x1)).setCell ⟨B, 2, none⟩ (.int .u64 x2)).setCell ⟨B, 3, none⟩ (.int .u64 x3)) B x0 x1 x2 x3 :=
  (((h.set0 x0).set1 x1).set2 x2).set3 x3
theorem Blk.other4 {W : World} {B C : Nat} {v0 v1 v2 v3 : Int} {x0 x1 x2 x3 : Value} (h : Blk W C v0 v1 v2 v3) (hne : C ≠ B) : Blk ((((W.setCell ⟨B, 0, none⟩ x0).setCell ⟨B, 1, none⟩ x1).setCell ⟨B, 2, none⟩ x2).setCell ⟨B, 3, none⟩ x3) C v0 v1 v2 v3 :=
  (((h.other hne).other hne).other hne).other hne
theorem Blk.drew {W : World} {B : Nat} {v0 v1 v2 v3 : Int} (h : Blk W B v0 v1 v2 v3) : Blk W.drew B v0 v1 v2 v3 :=
  ⟨h.c0, h.c1, h.c2, h.c3, h.f0, h.f1, h.f2, h.f3⟩
theorem Blk.drewN {W : World} {B : Nat} {v0 v1 v2 v3 : Int} (h : Blk W B v0 v1 v2 v3) (n : Nat) : Blk (W.drewN n) B v0 v1 v2 v3 :=
  ⟨h.c0, h.c1, h.c2, h.c3, h.f0, h.f1, h.f2, h.f3⟩

theorem bcl2 {n : Nat} {W0 wx : World} (h : Below n W0 wx) {a : Addr} {v : Value} (hv : W0.cell? a = some v) (ha : a.block < n) : wx.cell? a = some v := (h.cell ha).trans hv
theorem bfr2 {n : Nat} {W0 wx : World} (h : Below n W0 wx) {a : Addr} (hv : W0.frozen? a = false) (ha : a.block < n) : wx.frozen? a = false := (h.frozen ha).trans hv

theorem inv_start (a b : Int) (ha : 0 ≤ a) (ha' : a < 340282366920938463463374607431768211456) : Inv a b 128 0 0 0 0 0 := by
  have e : a / 2 ^ 128 = 0 := Int.ediv_eq_zero_of_lt ha ha'
  refine ⟨by rw [e]; simp, by rw [e]; simp, by simp, by simp, by simp, by simp⟩

theorem dig_bit (R bit : Int) (hb0 : 0 ≤ bit) (hb1 : bit ≤ 1) : g0 (R + R) + bit = g0 (2 * R + bit) ∧ g1 (R + R) = g1 (2 * R + bit) ∧ g2 (R + R) = g2 (2 * R + bit) ∧ g3 (R + R) = g3 (2 * R + bit) := by
  unfold g0 g1 g2 g3; omega

theorem ret_two {a0 a1 a2 a3 b0 b1 b2 b3 a0' a1' a2' a3' b0' b1' b2' b3' : Int} (h0 : a0 = a0') (h1 : a1 = a1') (h2 : a2 = a2') (h3 : a3 = a3') (k0 : b0 = b0') (k1 : b1 = b1') (k2 : b2 = b2') (k3 : b3 = b3') : Ending.returned (.tuple #[.agg #[.int .u64 a0, .int .u64 a1, .int .u64 a2, .int .u64 a3], .agg #[.int .u64 b0, .int .u64 b1, .int .u64 b2, .int .u64 b3]]) = Ending.returned (.tuple #[.agg #[.int .u64 a0', .int .u64 a1', .int .u64 a2', .int .u64 a3'], .agg #[.int .u64 b0', .int .u64 b1', .int .u64 b2', .int .u64 b3']]) := by rw [h0, h1, h2, h3, k0, k1, k2, k3]

set_option maxRecDepth 100000 in
set_option maxHeartbeats 8000000 in
theorem rdiv_any (a b : Int) (w : World) (ha : 0 ≤ a) (ha' : a < 340282366920938463463374607431768211456) (hb : 0 < b) (hb' : b ≤ 170141183460469231731687303715884105728) :
    Calls Tryz.prog 152 #[.agg #[.int .u64 (g0 a), .int .u64 (g1 a), .int .u64 (g2 a), .int .u64 (g3 a)], .agg #[.int .u64 (g0 b), .int .u64 (g1 b), .int .u64 (g2 b), .int .u64 (g3 b)]] w fun e w' => e = .returned (.tuple #[.agg #[.int .u64 (g0 (a / b)), .int .u64 (g1 (a / b)), .int .u64 (g2 (a / b)), .int .u64 (g3 (a / b))], .agg #[.int .u64 (g0 (a % b)), .int .u64 (g1 (a % b)), .int .u64 (g2 (a % b)), .int .u64 (g3 (a % b))]]) ∧ Below w.heap.size w w' := by
  have z0 := g0_bd a
  have z1 := g1_bd a
  have z2 := g2_bd a
  have z3 := g3_bd a
  have y0 := g0_bd b
  have y1 := g1_bd b
  have y2 := g2_bd b
  have y3 := g3_bd b
  go_enter Tryz.func152, Tryz.ntmps152
  go_wp2
  go_loopw [8] (fun i wr => ∃ (k : Nat) (t0 t1 t2 t3 R : Int), k ≤ 128 ∧ 0 ≤ t0 ∧ t0 < 4294967296 ∧ 0 ≤ t1 ∧ t1 < 4294967296 ∧ 0 ≤ t2 ∧ t2 < 4294967296 ∧ 0 ≤ t3 ∧ t3 < 4294967296 ∧ Hid (Inv a b k t0 t1 t2 t3 R) ∧ (∃ i0 : Int, i0 = (k : Int) - 1 ∧ i = .int .i64 i0) ∧ Below w.heap.size w wr ∧ w.heap.size + 1 + 1 + 1 + 1 + 1 < wr.heap.size ∧ Blk wr (w.heap.size) (g0 (a)) (g1 (a)) (g2 (a)) (g3 (a)) ∧ Blk wr (w.heap.size + 1) (g0 (b)) (g1 (b)) (g2 (b)) (g3 (b)) ∧ Blk wr (w.heap.size + 1 + 1 + 1 + 1) (t0) (t1) (t2) (t3) ∧ Blk wr (w.heap.size + 1 + 1 + 1 + 1 + 1) (g0 (R)) (g1 (R)) (g2 (R)) (g3 (R)) ∧ Blk wr (w.heap.size + 1 + 1) (0) (0) (0) (0) ∧ Blk wr (w.heap.size + 1 + 1 + 1) (0) (0) (0) (0)) (fun i _ => (intOf i + 1).toNat)
  case atStart =>
    refine ⟨128, 0, 0, 0, 0, 0, by omega, by omega, by omega, by omega, by omega, by omega, by omega, by omega, by omega, inv_start a b ha ha', ⟨127, by decide, rfl⟩, by go_grown, by go_size, ?_, ?_, ?_, ?_, ?_, ?_⟩
    all_goals (constructor <;> simp (maxDischargeDepth := 12) [go_sem, show g0 0 = 0 by decide, show g1 0 = 0 by decide, show g2 0 = 0 by decide, show g3 0 = 0 by decide])
  case round =>
    obtain ⟨k, t0, t1, t2, t3, R, hk, p0, q0, p1, q1, p2, q2, p3, q3, hI, ⟨i0, hi0, rfl⟩, hBw, hsz, kA, kB, kT, kR, kX, kY⟩ := hrel
    by_cases hk0 : k = 0
    · subst hk0
      have hi1 : i0 < 0 := by omega
      have hi2 : (0 ≤ i0) = False := by simp; omega
      clear hi0
      obtain ⟨t0', t1', t2', t3'⟩ : Hid (g0 (a / b) = t0) ∧ Hid (g1 (a / b) = t1) ∧ Hid (g2 (a / b) = t2) ∧ Hid (g3 (a / b) = t3) := by
        have e := hI.out.times
        simp at e
        have := g_of t0 t1 t2 t3 ⟨p0, by omega⟩ ⟨p1, by omega⟩ ⟨p2, by omega⟩ ⟨p3, by omega⟩
        rw [e] at this; exact this
      have eR : Hid (R = a % b) := by have e := hI.out.rest; simp at e; exact e
      have kXX := kX
      obtain ⟨kX0, kX1, kX2, kX3, kX4, kX5, kX6, kX7⟩ := kX
      have kYY := kY
      obtain ⟨kY0, kY1, kY2, kY3, kY4, kY5, kY6, kY7⟩ := kY
      obtain ⟨kT0, kT1, kT2, kT3, -, -, -, -⟩ := kT
      obtain ⟨kR0, kR1, kR2, kR3, -, -, -, -⟩ := kR
      clear hI
      go_wp2
      go_region
      generalize hW : World.drew _ = W9
      have kX' : Blk W9 (w.heap.size + 1 + 1) t0 t1 t2 t3 := by rw [← hW]; exact ((kXX.four t0 t1 t2 t3).other4 (by omega)).drew
      have kY' : Blk W9 (w.heap.size + 1 + 1 + 1) (g0 R) (g1 R) (g2 R) (g3 R) := by rw [← hW]; exact ((kYY.other4 (by omega)).four _ _ _ _).drew
      have hB9 : Below w.heap.size w W9 := by rw [← hW]; repeat' (first | (with_reducible exact Below.refl _ _) | (with_reducible assumption) | (with_reducible refine bdrewN _ ?_) | (with_reducible refine Below.alloc ?_ ?_ _) | (with_reducible refine Below.setCell ?_ ?_ _) | (with_reducible refine Below.drew ?_) | go_size | (simp; omega))
      clear hW
      obtain ⟨x0, x1, x2, x3, -, -, -, -⟩ := kX'
      obtain ⟨x4, x5, x6, x7, -, -, -, -⟩ := kY'
      go_wp2
      refine bodyPost_ret (by simp [results, Tryz.results152, go_sem, x0, x1, x2, x3, x4, x5, x6, x7]; try rfl) rfl ?_
      exact ⟨ret_two t0'.out.symm t1'.out.symm t2'.out.symm t3'.out.symm (by rw [eR.out]) (by rw [eR.out]) (by rw [eR.out]) (by rw [eR.out]), hB9⟩
    · have hR : R = a / 2 ^ k % b := hI.out.rest
      have hR0 : 0 ≤ R := by rw [hR]; exact Int.emod_nonneg _ (by omega)
      have hR1 : R < b := by rw [hR]; exact Int.emod_lt_of_pos _ hb
      clear hR
      have hi1 : 0 ≤ i0 := by omega
      have hi3 : i0 ≤ 127 := by omega
      obtain ⟨s, hs, hks⟩ : ∃ s : Nat, s < 32 ∧ (k = 0 + s + 1 ∨ k = 32 + s + 1 ∨ k = 64 + s + 1 ∨ k = 96 + s + 1) := ⟨(k - 1) % 32, by omega, by omega⟩
      have hs' : (s : Int) < 32 := by omega
      have hp1 := pow_pos_i s
      have hp2 : (2 : Int) ^ s ≤ 2147483648 := by
        have : (2 : Int) ^ s * 2 ^ (31 - s) = 2147483648 := by rw [← Int.pow_add, show s + (31 - s) = 31 by omega]; rfl
        have h2 : (1 : Int) ≤ 2 ^ (31 - s) := pow_pos_i _
        have h3 : (2 : Int) ^ s * 1 ≤ 2 ^ s * 2 ^ (31 - s) := Int.mul_le_mul_of_nonneg_left h2 (by omega)
        omega
      rcases hks with rfl | rfl | rfl | rfl
      · obtain ⟨st1, st2⟩ := inv_step0 a b t0 t1 t2 t3 R s hs hb p0 q0 hI.out
        obtain ⟨bit, eB⟩ : ∃ bit : Int, g0 a / 2 ^ s % 2 = bit := ⟨_, rfl⟩
        have hb0 : 0 ≤ bit := by omega
        have hb1 : bit ≤ 1 := by omega
        obtain ⟨X, hX⟩ : ∃ X : Int, 2 * R + bit = X := ⟨_, rfl⟩
        have hX0 : 0 ≤ X := by omega
        have hX1 : X < 340282366920938463463374607431768211456 := by omega
        rw [eB, hX] at st1 st2
        have e1 : i0 / 32 = 0 := by omega
        have e3 : i0 % 32 = (s : Int) := by omega
        have e2 : IntKind.i64.wrap (i0.tdiv 32) = 0 := by rw [Int.tdiv_eq_ediv_of_nonneg hi1, e1]; rfl
        have e4 : IntKind.i64.wrap (i0.tmod 32) = (s : Int) := by rw [Int.tmod_eq_emod_of_nonneg hi1, e3]; go_arith
        obtain ⟨d0, d1, d2, d3⟩ := dig_bit R bit hb0 hb1
        rw [hX] at d0 d1 d2 d3
        have HB : Hid (i0 = (0 + s + 1 : Nat) - 1) := hi0
        clear hi0
        have K : Hid (Blk wr (w.heap.size) (g0 (a)) (g1 (a)) (g2 (a)) (g3 (a)) ∧ Blk wr (w.heap.size + 1) (g0 (b)) (g1 (b)) (g2 (b)) (g3 (b)) ∧ Blk wr (w.heap.size + 1 + 1 + 1 + 1) t0 t1 t2 t3 ∧ Blk wr (w.heap.size + 1 + 1) 0 0 0 0 ∧ Blk wr (w.heap.size + 1 + 1 + 1) 0 0 0 0) := ⟨kA, kB, kT, kX, kY⟩
        clear kA kB kT kX kY
        obtain ⟨kR0, kR1, kR2, kR3, kR4, kR5, kR6, kR7⟩ := kR
        go_wp2_with fail
        refine (rplus_any R R _ hR0 hR0 (by omega)).mono ?_
        rintro e w1 ⟨rfl, hb1⟩
        obtain ⟨n0, n1, n2, n3⟩ := (⟨bcl2 hb1 kR0 (by simp; omega), bcl2 hb1 kR1 (by simp; omega), bcl2 hb1 kR2 (by simp; omega), bcl2 hb1 kR3 (by simp; omega)⟩ : w1.cell? ⟨w.heap.size + 1 + 1 + 1 + 1 + 1, 0, none⟩ = some (.int .u64 (g0 R)) ∧ w1.cell? ⟨w.heap.size + 1 + 1 + 1 + 1 + 1, 1, none⟩ = some (.int .u64 (g1 R)) ∧ w1.cell? ⟨w.heap.size + 1 + 1 + 1 + 1 + 1, 2, none⟩ = some (.int .u64 (g2 R)) ∧ w1.cell? ⟨w.heap.size + 1 + 1 + 1 + 1 + 1, 3, none⟩ = some (.int .u64 (g3 R)))
        obtain ⟨f0, f1, f2, f3⟩ := (⟨bfr2 hb1 kR4 (by simp; omega), bfr2 hb1 kR5 (by simp; omega), bfr2 hb1 kR6 (by simp; omega), bfr2 hb1 kR7 (by simp; omega)⟩ : w1.frozen? ⟨w.heap.size + 1 + 1 + 1 + 1 + 1, 0, none⟩ = false ∧ w1.frozen? ⟨w.heap.size + 1 + 1 + 1 + 1 + 1, 1, none⟩ = false ∧ w1.frozen? ⟨w.heap.size + 1 + 1 + 1 + 1 + 1, 2, none⟩ = false ∧ w1.frozen? ⟨w.heap.size + 1 + 1 + 1 + 1 + 1, 3, none⟩ = false)
        go_wp2_with fail
        refine wp_world ?_
        intro W1 hW1
        have K1 : Blk W1 (w.heap.size) (g0 (a)) (g1 (a)) (g2 (a)) (g3 (a)) ∧ Blk W1 (w.heap.size + 1) (g0 (b)) (g1 (b)) (g2 (b)) (g3 (b)) ∧ Blk W1 (w.heap.size + 1 + 1 + 1 + 1) t0 t1 t2 t3 ∧ Blk W1 (w.heap.size + 1 + 1) 0 0 0 0 ∧ Blk W1 (w.heap.size + 1 + 1 + 1) 0 0 0 0 := by
          obtain ⟨u1, u2, u3, u4, u5⟩ := K.out
          rw [hW1]
          exact ⟨(u1.below hb1 (by omega)).other4 (by omega), (u2.below hb1 (by omega)).other4 (by omega), (u3.below hb1 (by omega)).other4 (by omega), (u4.below hb1 (by omega)).other4 (by omega), (u5.below hb1 (by omega)).other4 (by omega)⟩
        have K1R : Blk W1 (w.heap.size + 1 + 1 + 1 + 1 + 1) (g0 (R + R)) (g1 X) (g2 X) (g3 X) := by
          rw [hW1]; exact Blk.four ⟨n0, n1, n2, n3, f0, f1, f2, f3⟩ _ _ _ _
        have hB1 : Below w.heap.size w W1 := by
          have := hBw.trans (hb1.mono hBw.size)
          rw [hW1]; repeat' (first | (with_reducible exact Below.refl _ _) | (with_reducible assumption) | (with_reducible refine bdrewN _ ?_) | (with_reducible refine Below.alloc ?_ ?_ _) | (with_reducible refine Below.setCell ?_ ?_ _) | (with_reducible refine Below.drew ?_) | go_size | (simp; omega))
        have hs1 : w.heap.size + 1 + 1 + 1 + 1 + 1 < W1.heap.size := by
          have := hb1.size
          rw [hW1]; simp; omega
        clear hW1 n0 n1 n2 n3 f0 f1 f2 f3 kR0 kR1 kR2 kR3 kR4 kR5 kR6 kR7 hb1 K hBw hsz
        have KK : Hid (Blk W1 (w.heap.size) (g0 (a)) (g1 (a)) (g2 (a)) (g3 (a)) ∧ Blk W1 (w.heap.size + 1) (g0 (b)) (g1 (b)) (g2 (b)) (g3 (b)) ∧ Blk W1 (w.heap.size + 1 + 1 + 1 + 1) t0 t1 t2 t3 ∧ Blk W1 (w.heap.size + 1 + 1) 0 0 0 0 ∧ Blk W1 (w.heap.size + 1 + 1 + 1) 0 0 0 0) := K1
        have KR : Hid (Blk W1 (w.heap.size + 1 + 1 + 1 + 1 + 1) (g0 (R + R)) (g1 X) (g2 X) (g3 X)) := K1R
        obtain ⟨⟨v0, v1, v2, v3, -, -, -, -⟩, -⟩ := K1
        obtain ⟨r0, -, -, -, r4, -, -, -⟩ := K1R
        go_region
        generalize hW : World.setCell _ _ _ = W2
        have ev : IntKind.u64.wrap (g0 (R + R) + (g0 a / 2 ^ s).tmod 2) = g0 X := by
          have e := g0_bd a
          have : 0 ≤ g0 a / 2 ^ s := Int.ediv_nonneg e.1 (by omega)
          rw [Int.tmod_eq_emod_of_nonneg this, eB, d0]
          have := g0_bd X
          rw [IntKind.wrap_u64]; omega
        have K2R : Blk W2 (w.heap.size + 1 + 1 + 1 + 1 + 1) (g0 X) (g1 X) (g2 X) (g3 X) := by
          rw [← hW, ev]; exact KR.out.set0 _
        have K2 : Hid (Blk W2 (w.heap.size) (g0 (a)) (g1 (a)) (g2 (a)) (g3 (a)) ∧ Blk W2 (w.heap.size + 1) (g0 (b)) (g1 (b)) (g2 (b)) (g3 (b)) ∧ Blk W2 (w.heap.size + 1 + 1 + 1 + 1) t0 t1 t2 t3 ∧ Blk W2 (w.heap.size + 1 + 1) 0 0 0 0 ∧ Blk W2 (w.heap.size + 1 + 1 + 1) 0 0 0 0) := by
          obtain ⟨u1, u2, u3, u4, u5⟩ := KK.out
          rw [← hW]
          exact ⟨u1.other (by omega), u2.other (by omega), u3.other (by omega), u4.other (by omega), u5.other (by omega)⟩
        have hB2 : Below w.heap.size w W2 := by rw [← hW]; repeat' (first | (with_reducible exact Below.refl _ _) | (with_reducible assumption) | (with_reducible refine bdrewN _ ?_) | (with_reducible refine Below.alloc ?_ ?_ _) | (with_reducible refine Below.setCell ?_ ?_ _) | (with_reducible refine Below.drew ?_) | go_size | (simp; omega))
        have hs2 : w.heap.size + 1 + 1 + 1 + 1 + 1 < W2.heap.size := by rw [← hW]; simp; omega
        clear hW ev KK KR hB1 hs1 v0 v1 v2 v3 r0 r4 d0 d1 d2 d3
        have KR : Hid (Blk W2 (w.heap.size + 1 + 1 + 1 + 1 + 1) (g0 X) (g1 X) (g2 X) (g3 X)) := K2R
        obtain ⟨r0, r1, r2, r3, r4, r5, r6, r7⟩ := K2R
        obtain ⟨l0, l1, l2, l3, -, -, -, -⟩ := K2.out.2.1
        obtain ⟨c, ec⟩ : ∃ c : Int, Hid (cmpI X b = c) := ⟨_, rfl⟩
        by_cases hc : b ≤ X
        · have hc0 : 0 ≤ c := by rw [← ec.out]; unfold cmpI; split <;> (try split) <;> omega
          obtain ⟨y1, y2⟩ := st1 hc
          clear st1 st2
          go_wp2_with fail
          refine (rcompare_any X b _ hX0 hX1 (by omega) (by omega)).mono ?_
          rintro e w3 ⟨rfl, hb3⟩
          rw [ec.out]
          have hH : W2.drew.heap.size = W2.heap.size := rfl
          rw [hH] at hb3
          have hb4 : Below W2.heap.size W2 w3 := ⟨hb3.os, hb3.tape, hb3.output, hb3.size, hb3.block⟩
          have hB3 := hB2.trans (hb4.mono hB2.size)
          have hs3 := hb4.size
          have hs4 : w.heap.size + 1 + 1 + 1 + 1 + 1 < w3.heap.size := by omega
          have K3 : Hid (Blk w3 (w.heap.size) (g0 (a)) (g1 (a)) (g2 (a)) (g3 (a)) ∧ Blk w3 (w.heap.size + 1) (g0 (b)) (g1 (b)) (g2 (b)) (g3 (b)) ∧ Blk w3 (w.heap.size + 1 + 1 + 1 + 1) t0 t1 t2 t3 ∧ Blk w3 (w.heap.size + 1 + 1) 0 0 0 0 ∧ Blk w3 (w.heap.size + 1 + 1 + 1) 0 0 0 0) := by
            obtain ⟨u1, u2, u3, u4, u5⟩ := K2.out
            exact ⟨u1.below hb4 (by omega), u2.below hb4 (by omega), u3.below hb4 (by omega), u4.below hb4 (by omega), u5.below hb4 (by omega)⟩
          have K3R : Hid (Blk w3 (w.heap.size + 1 + 1 + 1 + 1 + 1) (g0 X) (g1 X) (g2 X) (g3 X)) := KR.out.below hb4 (by omega)
          clear hb3 hb4 hs3 hs2 hB2 K2 KR r0 r1 r2 r3 r4 r5 r6 r7 l0 l1 l2 l3 hH
          obtain ⟨r0, r1, r2, r3, -, -, -, -⟩ := K3R.out
          obtain ⟨l0, l1, l2, l3, -, -, -, -⟩ := K3.out.2.1
          go_wp2_with fail
          refine (rless_any X b _ (by omega) hc hX1).mono ?_
          rintro e w4 ⟨rfl, hb5⟩
          have hB4 := hB3.trans (hb5.mono hB3.size)
          have hs5 := hb5.size
          have K4 : Hid (Blk w4 (w.heap.size) (g0 (a)) (g1 (a)) (g2 (a)) (g3 (a)) ∧ Blk w4 (w.heap.size + 1) (g0 (b)) (g1 (b)) (g2 (b)) (g3 (b)) ∧ Blk w4 (w.heap.size + 1 + 1 + 1 + 1) t0 t1 t2 t3 ∧ Blk w4 (w.heap.size + 1 + 1) 0 0 0 0 ∧ Blk w4 (w.heap.size + 1 + 1 + 1) 0 0 0 0) := by
            obtain ⟨u1, u2, u3, u4, u5⟩ := K3.out
            exact ⟨u1.below hb5 (by omega), u2.below hb5 (by omega), u3.below hb5 (by omega), u4.below hb5 (by omega), u5.below hb5 (by omega)⟩
          have K4R : Hid (Blk w4 (w.heap.size + 1 + 1 + 1 + 1 + 1) (g0 X) (g1 X) (g2 X) (g3 X)) := K3R.out.below hb5 (by omega)
          have hs6 : w.heap.size + 1 + 1 + 1 + 1 + 1 < w4.heap.size := by omega
          clear hb5 hs5 hs4 hB3 K3 K3R r0 r1 r2 r3 l0 l1 l2 l3
          obtain ⟨r0, r1, r2, r3, r4, r5, r6, r7⟩ := K4R.out
          obtain ⟨l0, l1, l2, l3, l4, l5, l6, l7⟩ := K4.out.2.2.1
          obtain ⟨u1, u2, u3, u4, u5⟩ := K4.out
          have u6 := K4R.out
          go_wp2
          exact ⟨⟨0 + s, (t0 + 2 ^ s), t1, t2, t3, X - b, by omega, (by omega), y1, p1, q1, p2, q2, p3, q3, y2, ⟨i0 - 1, by have := HB.out; omega, rfl⟩, (by repeat' (first | (with_reducible exact Below.refl _ _) | (with_reducible assumption) | (with_reducible refine bdrewN _ ?_) | (with_reducible refine Below.alloc ?_ ?_ _) | (with_reducible refine Below.setCell ?_ ?_ _) | (with_reducible refine Below.drew ?_) | go_size | (simp; omega))), by simp; omega, (u1.other4 (by omega)).other (by omega), (u2.other4 (by omega)).other (by omega), (u3.other4 (by omega)).set0 _, (u6.four _ _ _ _).other (by omega), (u4.other4 (by omega)).other (by omega), (u5.other4 (by omega)).other (by omega)⟩, by simp [intOf]; omega⟩
        · have hc0 : (0 ≤ c) = False := by simp; rw [← ec.out]; unfold cmpI; split <;> (try split) <;> omega
          have hc1 : c < 0 := by simpa using hc0
          have y2 := st2 (by omega)
          clear st1 st2
          go_wp2_with fail
          refine (rcompare_any X b _ hX0 hX1 (by omega) (by omega)).mono ?_
          rintro e w3 ⟨rfl, hb3⟩
          rw [ec.out]
          obtain ⟨u1, u2, u3, u4, u5⟩ := K2.out
          have u6 := KR.out
          have hH : W2.drew.heap.size = W2.heap.size := rfl
          rw [hH] at hb3
          have hb4 : Below W2.heap.size W2 w3 := ⟨hb3.os, hb3.tape, hb3.output, hb3.size, hb3.block⟩
          have hB3 := hB2.trans (hb4.mono hB2.size)
          have hs3 := hb4.size
          go_wp2
          exact ⟨⟨0 + s, t0, t1, t2, t3, X, by omega, p0, q0, p1, q1, p2, q2, p3, q3, y2, ⟨i0 - 1, by have := HB.out; omega, rfl⟩, hB3, by omega, u1.below hb4 (by omega), u2.below hb4 (by omega), u3.below hb4 (by omega), u6.below hb4 (by omega), u4.below hb4 (by omega), u5.below hb4 (by omega)⟩, by simp [intOf]; omega⟩
      · obtain ⟨st1, st2⟩ := inv_step1 a b t0 t1 t2 t3 R s hs hb p1 q1 hI.out
        obtain ⟨bit, eB⟩ : ∃ bit : Int, g1 a / 2 ^ s % 2 = bit := ⟨_, rfl⟩
        have hb0 : 0 ≤ bit := by omega
        have hb1 : bit ≤ 1 := by omega
        obtain ⟨X, hX⟩ : ∃ X : Int, 2 * R + bit = X := ⟨_, rfl⟩
        have hX0 : 0 ≤ X := by omega
        have hX1 : X < 340282366920938463463374607431768211456 := by omega
        rw [eB, hX] at st1 st2
        have e1 : i0 / 32 = 1 := by omega
        have e3 : i0 % 32 = (s : Int) := by omega
        have e2 : IntKind.i64.wrap (i0.tdiv 32) = 1 := by rw [Int.tdiv_eq_ediv_of_nonneg hi1, e1]; rfl
        have e4 : IntKind.i64.wrap (i0.tmod 32) = (s : Int) := by rw [Int.tmod_eq_emod_of_nonneg hi1, e3]; go_arith
        obtain ⟨d0, d1, d2, d3⟩ := dig_bit R bit hb0 hb1
        rw [hX] at d0 d1 d2 d3
        have HB : Hid (i0 = (32 + s + 1 : Nat) - 1) := hi0
        clear hi0
        have K : Hid (Blk wr (w.heap.size) (g0 (a)) (g1 (a)) (g2 (a)) (g3 (a)) ∧ Blk wr (w.heap.size + 1) (g0 (b)) (g1 (b)) (g2 (b)) (g3 (b)) ∧ Blk wr (w.heap.size + 1 + 1 + 1 + 1) t0 t1 t2 t3 ∧ Blk wr (w.heap.size + 1 + 1) 0 0 0 0 ∧ Blk wr (w.heap.size + 1 + 1 + 1) 0 0 0 0) := ⟨kA, kB, kT, kX, kY⟩
        clear kA kB kT kX kY
        obtain ⟨kR0, kR1, kR2, kR3, kR4, kR5, kR6, kR7⟩ := kR
        go_wp2_with fail
        refine (rplus_any R R _ hR0 hR0 (by omega)).mono ?_
        rintro e w1 ⟨rfl, hb1⟩
        obtain ⟨n0, n1, n2, n3⟩ := (⟨bcl2 hb1 kR0 (by simp; omega), bcl2 hb1 kR1 (by simp; omega), bcl2 hb1 kR2 (by simp; omega), bcl2 hb1 kR3 (by simp; omega)⟩ : w1.cell? ⟨w.heap.size + 1 + 1 + 1 + 1 + 1, 0, none⟩ = some (.int .u64 (g0 R)) ∧ w1.cell? ⟨w.heap.size + 1 + 1 + 1 + 1 + 1, 1, none⟩ = some (.int .u64 (g1 R)) ∧ w1.cell? ⟨w.heap.size + 1 + 1 + 1 + 1 + 1, 2, none⟩ = some (.int .u64 (g2 R)) ∧ w1.cell? ⟨w.heap.size + 1 + 1 + 1 + 1 + 1, 3, none⟩ = some (.int .u64 (g3 R)))
        obtain ⟨f0, f1, f2, f3⟩ := (⟨bfr2 hb1 kR4 (by simp; omega), bfr2 hb1 kR5 (by simp; omega), bfr2 hb1 kR6 (by simp; omega), bfr2 hb1 kR7 (by simp; omega)⟩ : w1.frozen? ⟨w.heap.size + 1 + 1 + 1 + 1 + 1, 0, none⟩ = false ∧ w1.frozen? ⟨w.heap.size + 1 + 1 + 1 + 1 + 1, 1, none⟩ = false ∧ w1.frozen? ⟨w.heap.size + 1 + 1 + 1 + 1 + 1, 2, none⟩ = false ∧ w1.frozen? ⟨w.heap.size + 1 + 1 + 1 + 1 + 1, 3, none⟩ = false)
        go_wp2_with fail
        refine wp_world ?_
        intro W1 hW1
        have K1 : Blk W1 (w.heap.size) (g0 (a)) (g1 (a)) (g2 (a)) (g3 (a)) ∧ Blk W1 (w.heap.size + 1) (g0 (b)) (g1 (b)) (g2 (b)) (g3 (b)) ∧ Blk W1 (w.heap.size + 1 + 1 + 1 + 1) t0 t1 t2 t3 ∧ Blk W1 (w.heap.size + 1 + 1) 0 0 0 0 ∧ Blk W1 (w.heap.size + 1 + 1 + 1) 0 0 0 0 := by
          obtain ⟨u1, u2, u3, u4, u5⟩ := K.out
          rw [hW1]
          exact ⟨(u1.below hb1 (by omega)).other4 (by omega), (u2.below hb1 (by omega)).other4 (by omega), (u3.below hb1 (by omega)).other4 (by omega), (u4.below hb1 (by omega)).other4 (by omega), (u5.below hb1 (by omega)).other4 (by omega)⟩
        have K1R : Blk W1 (w.heap.size + 1 + 1 + 1 + 1 + 1) (g0 (R + R)) (g1 X) (g2 X) (g3 X) := by
          rw [hW1]; exact Blk.four ⟨n0, n1, n2, n3, f0, f1, f2, f3⟩ _ _ _ _
        have hB1 : Below w.heap.size w W1 := by
          have := hBw.trans (hb1.mono hBw.size)
          rw [hW1]; repeat' (first | (with_reducible exact Below.refl _ _) | (with_reducible assumption) | (with_reducible refine bdrewN _ ?_) | (with_reducible refine Below.alloc ?_ ?_ _) | (with_reducible refine Below.setCell ?_ ?_ _) | (with_reducible refine Below.drew ?_) | go_size | (simp; omega))
        have hs1 : w.heap.size + 1 + 1 + 1 + 1 + 1 < W1.heap.size := by
          have := hb1.size
          rw [hW1]; simp; omega
        clear hW1 n0 n1 n2 n3 f0 f1 f2 f3 kR0 kR1 kR2 kR3 kR4 kR5 kR6 kR7 hb1 K hBw hsz
        have KK : Hid (Blk W1 (w.heap.size) (g0 (a)) (g1 (a)) (g2 (a)) (g3 (a)) ∧ Blk W1 (w.heap.size + 1) (g0 (b)) (g1 (b)) (g2 (b)) (g3 (b)) ∧ Blk W1 (w.heap.size + 1 + 1 + 1 + 1) t0 t1 t2 t3 ∧ Blk W1 (w.heap.size + 1 + 1) 0 0 0 0 ∧ Blk W1 (w.heap.size + 1 + 1 + 1) 0 0 0 0) := K1
        have KR : Hid (Blk W1 (w.heap.size + 1 + 1 + 1 + 1 + 1) (g0 (R + R)) (g1 X) (g2 X) (g3 X)) := K1R
        obtain ⟨⟨v0, v1, v2, v3, -, -, -, -⟩, -⟩ := K1
        obtain ⟨r0, -, -, -, r4, -, -, -⟩ := K1R
        go_region
        generalize hW : World.setCell _ _ _ = W2
        have ev : IntKind.u64.wrap (g0 (R + R) + (g1 a / 2 ^ s).tmod 2) = g0 X := by
          have e := g1_bd a
          have : 0 ≤ g1 a / 2 ^ s := Int.ediv_nonneg e.1 (by omega)
          rw [Int.tmod_eq_emod_of_nonneg this, eB, d0]
          have := g0_bd X
          rw [IntKind.wrap_u64]; omega
        have K2R : Blk W2 (w.heap.size + 1 + 1 + 1 + 1 + 1) (g0 X) (g1 X) (g2 X) (g3 X) := by
          rw [← hW, ev]; exact KR.out.set0 _
        have K2 : Hid (Blk W2 (w.heap.size) (g0 (a)) (g1 (a)) (g2 (a)) (g3 (a)) ∧ Blk W2 (w.heap.size + 1) (g0 (b)) (g1 (b)) (g2 (b)) (g3 (b)) ∧ Blk W2 (w.heap.size + 1 + 1 + 1 + 1) t0 t1 t2 t3 ∧ Blk W2 (w.heap.size + 1 + 1) 0 0 0 0 ∧ Blk W2 (w.heap.size + 1 + 1 + 1) 0 0 0 0) := by
          obtain ⟨u1, u2, u3, u4, u5⟩ := KK.out
          rw [← hW]
          exact ⟨u1.other (by omega), u2.other (by omega), u3.other (by omega), u4.other (by omega), u5.other (by omega)⟩
        have hB2 : Below w.heap.size w W2 := by rw [← hW]; repeat' (first | (with_reducible exact Below.refl _ _) | (with_reducible assumption) | (with_reducible refine bdrewN _ ?_) | (with_reducible refine Below.alloc ?_ ?_ _) | (with_reducible refine Below.setCell ?_ ?_ _) | (with_reducible refine Below.drew ?_) | go_size | (simp; omega))
        have hs2 : w.heap.size + 1 + 1 + 1 + 1 + 1 < W2.heap.size := by rw [← hW]; simp; omega
        clear hW ev KK KR hB1 hs1 v0 v1 v2 v3 r0 r4 d0 d1 d2 d3
        have KR : Hid (Blk W2 (w.heap.size + 1 + 1 + 1 + 1 + 1) (g0 X) (g1 X) (g2 X) (g3 X)) := K2R
        obtain ⟨r0, r1, r2, r3, r4, r5, r6, r7⟩ := K2R
        obtain ⟨l0, l1, l2, l3, -, -, -, -⟩ := K2.out.2.1
        obtain ⟨c, ec⟩ : ∃ c : Int, Hid (cmpI X b = c) := ⟨_, rfl⟩
        by_cases hc : b ≤ X
        · have hc0 : 0 ≤ c := by rw [← ec.out]; unfold cmpI; split <;> (try split) <;> omega
          obtain ⟨y1, y2⟩ := st1 hc
          clear st1 st2
          go_wp2_with fail
          refine (rcompare_any X b _ hX0 hX1 (by omega) (by omega)).mono ?_
          rintro e w3 ⟨rfl, hb3⟩
          rw [ec.out]
          have hH : W2.drew.heap.size = W2.heap.size := rfl
          rw [hH] at hb3
          have hb4 : Below W2.heap.size W2 w3 := ⟨hb3.os, hb3.tape, hb3.output, hb3.size, hb3.block⟩
          have hB3 := hB2.trans (hb4.mono hB2.size)
          have hs3 := hb4.size
          have hs4 : w.heap.size + 1 + 1 + 1 + 1 + 1 < w3.heap.size := by omega
          have K3 : Hid (Blk w3 (w.heap.size) (g0 (a)) (g1 (a)) (g2 (a)) (g3 (a)) ∧ Blk w3 (w.heap.size + 1) (g0 (b)) (g1 (b)) (g2 (b)) (g3 (b)) ∧ Blk w3 (w.heap.size + 1 + 1 + 1 + 1) t0 t1 t2 t3 ∧ Blk w3 (w.heap.size + 1 + 1) 0 0 0 0 ∧ Blk w3 (w.heap.size + 1 + 1 + 1) 0 0 0 0) := by
            obtain ⟨u1, u2, u3, u4, u5⟩ := K2.out
            exact ⟨u1.below hb4 (by omega), u2.below hb4 (by omega), u3.below hb4 (by omega), u4.below hb4 (by omega), u5.below hb4 (by omega)⟩
          have K3R : Hid (Blk w3 (w.heap.size + 1 + 1 + 1 + 1 + 1) (g0 X) (g1 X) (g2 X) (g3 X)) := KR.out.below hb4 (by omega)
          clear hb3 hb4 hs3 hs2 hB2 K2 KR r0 r1 r2 r3 r4 r5 r6 r7 l0 l1 l2 l3 hH
          obtain ⟨r0, r1, r2, r3, -, -, -, -⟩ := K3R.out
          obtain ⟨l0, l1, l2, l3, -, -, -, -⟩ := K3.out.2.1
          go_wp2_with fail
          refine (rless_any X b _ (by omega) hc hX1).mono ?_
          rintro e w4 ⟨rfl, hb5⟩
          have hB4 := hB3.trans (hb5.mono hB3.size)
          have hs5 := hb5.size
          have K4 : Hid (Blk w4 (w.heap.size) (g0 (a)) (g1 (a)) (g2 (a)) (g3 (a)) ∧ Blk w4 (w.heap.size + 1) (g0 (b)) (g1 (b)) (g2 (b)) (g3 (b)) ∧ Blk w4 (w.heap.size + 1 + 1 + 1 + 1) t0 t1 t2 t3 ∧ Blk w4 (w.heap.size + 1 + 1) 0 0 0 0 ∧ Blk w4 (w.heap.size + 1 + 1 + 1) 0 0 0 0) := by
            obtain ⟨u1, u2, u3, u4, u5⟩ := K3.out
            exact ⟨u1.below hb5 (by omega), u2.below hb5 (by omega), u3.below hb5 (by omega), u4.below hb5 (by omega), u5.below hb5 (by omega)⟩
          have K4R : Hid (Blk w4 (w.heap.size + 1 + 1 + 1 + 1 + 1) (g0 X) (g1 X) (g2 X) (g3 X)) := K3R.out.below hb5 (by omega)
          have hs6 : w.heap.size + 1 + 1 + 1 + 1 + 1 < w4.heap.size := by omega
          clear hb5 hs5 hs4 hB3 K3 K3R r0 r1 r2 r3 l0 l1 l2 l3
          obtain ⟨r0, r1, r2, r3, r4, r5, r6, r7⟩ := K4R.out
          obtain ⟨l0, l1, l2, l3, l4, l5, l6, l7⟩ := K4.out.2.2.1
          obtain ⟨u1, u2, u3, u4, u5⟩ := K4.out
          have u6 := K4R.out
          go_wp2
          exact ⟨⟨32 + s, t0, (t1 + 2 ^ s), t2, t3, X - b, by omega, p0, q0, (by omega), y1, p2, q2, p3, q3, y2, ⟨i0 - 1, by have := HB.out; omega, rfl⟩, (by repeat' (first | (with_reducible exact Below.refl _ _) | (with_reducible assumption) | (with_reducible refine bdrewN _ ?_) | (with_reducible refine Below.alloc ?_ ?_ _) | (with_reducible refine Below.setCell ?_ ?_ _) | (with_reducible refine Below.drew ?_) | go_size | (simp; omega))), by simp; omega, (u1.other4 (by omega)).other (by omega), (u2.other4 (by omega)).other (by omega), (u3.other4 (by omega)).set1 _, (u6.four _ _ _ _).other (by omega), (u4.other4 (by omega)).other (by omega), (u5.other4 (by omega)).other (by omega)⟩, by simp [intOf]; omega⟩
        · have hc0 : (0 ≤ c) = False := by simp; rw [← ec.out]; unfold cmpI; split <;> (try split) <;> omega
          have hc1 : c < 0 := by simpa using hc0
          have y2 := st2 (by omega)
          clear st1 st2
          go_wp2_with fail
          refine (rcompare_any X b _ hX0 hX1 (by omega) (by omega)).mono ?_
          rintro e w3 ⟨rfl, hb3⟩
          rw [ec.out]
          obtain ⟨u1, u2, u3, u4, u5⟩ := K2.out
          have u6 := KR.out
          have hH : W2.drew.heap.size = W2.heap.size := rfl
          rw [hH] at hb3
          have hb4 : Below W2.heap.size W2 w3 := ⟨hb3.os, hb3.tape, hb3.output, hb3.size, hb3.block⟩
          have hB3 := hB2.trans (hb4.mono hB2.size)
          have hs3 := hb4.size
          go_wp2
          exact ⟨⟨32 + s, t0, t1, t2, t3, X, by omega, p0, q0, p1, q1, p2, q2, p3, q3, y2, ⟨i0 - 1, by have := HB.out; omega, rfl⟩, hB3, by omega, u1.below hb4 (by omega), u2.below hb4 (by omega), u3.below hb4 (by omega), u6.below hb4 (by omega), u4.below hb4 (by omega), u5.below hb4 (by omega)⟩, by simp [intOf]; omega⟩
      · obtain ⟨st1, st2⟩ := inv_step2 a b t0 t1 t2 t3 R s hs hb p2 q2 hI.out
        obtain ⟨bit, eB⟩ : ∃ bit : Int, g2 a / 2 ^ s % 2 = bit := ⟨_, rfl⟩
        have hb0 : 0 ≤ bit := by omega
        have hb1 : bit ≤ 1 := by omega
        obtain ⟨X, hX⟩ : ∃ X : Int, 2 * R + bit = X := ⟨_, rfl⟩
        have hX0 : 0 ≤ X := by omega
        have hX1 : X < 340282366920938463463374607431768211456 := by omega
        rw [eB, hX] at st1 st2
        have e1 : i0 / 32 = 2 := by omega
        have e3 : i0 % 32 = (s : Int) := by omega
        have e2 : IntKind.i64.wrap (i0.tdiv 32) = 2 := by rw [Int.tdiv_eq_ediv_of_nonneg hi1, e1]; rfl
        have e4 : IntKind.i64.wrap (i0.tmod 32) = (s : Int) := by rw [Int.tmod_eq_emod_of_nonneg hi1, e3]; go_arith
        obtain ⟨d0, d1, d2, d3⟩ := dig_bit R bit hb0 hb1
        rw [hX] at d0 d1 d2 d3
        have HB : Hid (i0 = (64 + s + 1 : Nat) - 1) := hi0
        clear hi0
        have K : Hid (Blk wr (w.heap.size) (g0 (a)) (g1 (a)) (g2 (a)) (g3 (a)) ∧ Blk wr (w.heap.size + 1) (g0 (b)) (g1 (b)) (g2 (b)) (g3 (b)) ∧ Blk wr (w.heap.size + 1 + 1 + 1 + 1) t0 t1 t2 t3 ∧ Blk wr (w.heap.size + 1 + 1) 0 0 0 0 ∧ Blk wr (w.heap.size + 1 + 1 + 1) 0 0 0 0) := ⟨kA, kB, kT, kX, kY⟩
        clear kA kB kT kX kY
        obtain ⟨kR0, kR1, kR2, kR3, kR4, kR5, kR6, kR7⟩ := kR
        go_wp2_with fail
        refine (rplus_any R R _ hR0 hR0 (by omega)).mono ?_
        rintro e w1 ⟨rfl, hb1⟩
        obtain ⟨n0, n1, n2, n3⟩ := (⟨bcl2 hb1 kR0 (by simp; omega), bcl2 hb1 kR1 (by simp; omega), bcl2 hb1 kR2 (by simp; omega), bcl2 hb1 kR3 (by simp; omega)⟩ : w1.cell? ⟨w.heap.size + 1 + 1 + 1 + 1 + 1, 0, none⟩ = some (.int .u64 (g0 R)) ∧ w1.cell? ⟨w.heap.size + 1 + 1 + 1 + 1 + 1, 1, none⟩ = some (.int .u64 (g1 R)) ∧ w1.cell? ⟨w.heap.size + 1 + 1 + 1 + 1 + 1, 2, none⟩ = some (.int .u64 (g2 R)) ∧ w1.cell? ⟨w.heap.size + 1 + 1 + 1 + 1 + 1, 3, none⟩ = some (.int .u64 (g3 R)))
        obtain ⟨f0, f1, f2, f3⟩ := (⟨bfr2 hb1 kR4 (by simp; omega), bfr2 hb1 kR5 (by simp; omega), bfr2 hb1 kR6 (by simp; omega), bfr2 hb1 kR7 (by simp; omega)⟩ : w1.frozen? ⟨w.heap.size + 1 + 1 + 1 + 1 + 1, 0, none⟩ = false ∧ w1.frozen? ⟨w.heap.size + 1 + 1 + 1 + 1 + 1, 1, none⟩ = false ∧ w1.frozen? ⟨w.heap.size + 1 + 1 + 1 + 1 + 1, 2, none⟩ = false ∧ w1.frozen? ⟨w.heap.size + 1 + 1 + 1 + 1 + 1, 3, none⟩ = false)
        go_wp2_with fail
        refine wp_world ?_
        intro W1 hW1
        have K1 : Blk W1 (w.heap.size) (g0 (a)) (g1 (a)) (g2 (a)) (g3 (a)) ∧ Blk W1 (w.heap.size + 1) (g0 (b)) (g1 (b)) (g2 (b)) (g3 (b)) ∧ Blk W1 (w.heap.size + 1 + 1 + 1 + 1) t0 t1 t2 t3 ∧ Blk W1 (w.heap.size + 1 + 1) 0 0 0 0 ∧ Blk W1 (w.heap.size + 1 + 1 + 1) 0 0 0 0 := by
          obtain ⟨u1, u2, u3, u4, u5⟩ := K.out
          rw [hW1]
          exact ⟨(u1.below hb1 (by omega)).other4 (by omega), (u2.below hb1 (by omega)).other4 (by omega), (u3.below hb1 (by omega)).other4 (by omega), (u4.below hb1 (by omega)).other4 (by omega), (u5.below hb1 (by omega)).other4 (by omega)⟩
        have K1R : Blk W1 (w.heap.size + 1 + 1 + 1 + 1 + 1) (g0 (R + R)) (g1 X) (g2 X) (g3 X) := by
          rw [hW1]; exact Blk.four ⟨n0, n1, n2, n3, f0, f1, f2, f3⟩ _ _ _ _
        have hB1 : Below w.heap.size w W1 := by
          have := hBw.trans (hb1.mono hBw.size)
          rw [hW1]; repeat' (first | (with_reducible exact Below.refl _ _) | (with_reducible assumption) | (with_reducible refine bdrewN _ ?_) | (with_reducible refine Below.alloc ?_ ?_ _) | (with_reducible refine Below.setCell ?_ ?_ _) | (with_reducible refine Below.drew ?_) | go_size | (simp; omega))
        have hs1 : w.heap.size + 1 + 1 + 1 + 1 + 1 < W1.heap.size := by
          have := hb1.size
          rw [hW1]; simp; omega
        clear hW1 n0 n1 n2 n3 f0 f1 f2 f3 kR0 kR1 kR2 kR3 kR4 kR5 kR6 kR7 hb1 K hBw hsz
        have KK : Hid (Blk W1 (w.heap.size) (g0 (a)) (g1 (a)) (g2 (a)) (g3 (a)) ∧ Blk W1 (w.heap.size + 1) (g0 (b)) (g1 (b)) (g2 (b)) (g3 (b)) ∧ Blk W1 (w.heap.size + 1 + 1 + 1 + 1) t0 t1 t2 t3 ∧ Blk W1 (w.heap.size + 1 + 1) 0 0 0 0 ∧ Blk W1 (w.heap.size + 1 + 1 + 1) 0 0 0 0) := K1
        have KR : Hid (Blk W1 (w.heap.size + 1 + 1 + 1 + 1 + 1) (g0 (R + R)) (g1 X) (g2 X) (g3 X)) := K1R
        obtain ⟨⟨v0, v1, v2, v3, -, -, -, -⟩, -⟩ := K1
        obtain ⟨r0, -, -, -, r4, -, -, -⟩ := K1R
        go_region
        generalize hW : World.setCell _ _ _ = W2
        have ev : IntKind.u64.wrap (g0 (R + R) + (g2 a / 2 ^ s).tmod 2) = g0 X := by
          have e := g2_bd a
          have : 0 ≤ g2 a / 2 ^ s := Int.ediv_nonneg e.1 (by omega)
          rw [Int.tmod_eq_emod_of_nonneg this, eB, d0]
          have := g0_bd X
          rw [IntKind.wrap_u64]; omega
        have K2R : Blk W2 (w.heap.size + 1 + 1 + 1 + 1 + 1) (g0 X) (g1 X) (g2 X) (g3 X) := by
          rw [← hW, ev]; exact KR.out.set0 _
        have K2 : Hid (Blk W2 (w.heap.size) (g0 (a)) (g1 (a)) (g2 (a)) (g3 (a)) ∧ Blk W2 (w.heap.size + 1) (g0 (b)) (g1 (b)) (g2 (b)) (g3 (b)) ∧ Blk W2 (w.heap.size + 1 + 1 + 1 + 1) t0 t1 t2 t3 ∧ Blk W2 (w.heap.size + 1 + 1) 0 0 0 0 ∧ Blk W2 (w.heap.size + 1 + 1 + 1) 0 0 0 0) := by
          obtain ⟨u1, u2, u3, u4, u5⟩ := KK.out
          rw [← hW]
          exact ⟨u1.other (by omega), u2.other (by omega), u3.other (by omega), u4.other (by omega), u5.other (by omega)⟩
        have hB2 : Below w.heap.size w W2 := by rw [← hW]; repeat' (first | (with_reducible exact Below.refl _ _) | (with_reducible assumption) | (with_reducible refine bdrewN _ ?_) | (with_reducible refine Below.alloc ?_ ?_ _) | (with_reducible refine Below.setCell ?_ ?_ _) | (with_reducible refine Below.drew ?_) | go_size | (simp; omega))
        have hs2 : w.heap.size + 1 + 1 + 1 + 1 + 1 < W2.heap.size := by rw [← hW]; simp; omega
        clear hW ev KK KR hB1 hs1 v0 v1 v2 v3 r0 r4 d0 d1 d2 d3
        have KR : Hid (Blk W2 (w.heap.size + 1 + 1 + 1 + 1 + 1) (g0 X) (g1 X) (g2 X) (g3 X)) := K2R
        obtain ⟨r0, r1, r2, r3, r4, r5, r6, r7⟩ := K2R
        obtain ⟨l0, l1, l2, l3, -, -, -, -⟩ := K2.out.2.1
        obtain ⟨c, ec⟩ : ∃ c : Int, Hid (cmpI X b = c) := ⟨_, rfl⟩
        by_cases hc : b ≤ X
        · have hc0 : 0 ≤ c := by rw [← ec.out]; unfold cmpI; split <;> (try split) <;> omega
          obtain ⟨y1, y2⟩ := st1 hc
          clear st1 st2
          go_wp2_with fail
          refine (rcompare_any X b _ hX0 hX1 (by omega) (by omega)).mono ?_
          rintro e w3 ⟨rfl, hb3⟩
          rw [ec.out]
          have hH : W2.drew.heap.size = W2.heap.size := rfl
          rw [hH] at hb3
          have hb4 : Below W2.heap.size W2 w3 := ⟨hb3.os, hb3.tape, hb3.output, hb3.size, hb3.block⟩
          have hB3 := hB2.trans (hb4.mono hB2.size)
          have hs3 := hb4.size
          have hs4 : w.heap.size + 1 + 1 + 1 + 1 + 1 < w3.heap.size := by omega
          have K3 : Hid (Blk w3 (w.heap.size) (g0 (a)) (g1 (a)) (g2 (a)) (g3 (a)) ∧ Blk w3 (w.heap.size + 1) (g0 (b)) (g1 (b)) (g2 (b)) (g3 (b)) ∧ Blk w3 (w.heap.size + 1 + 1 + 1 + 1) t0 t1 t2 t3 ∧ Blk w3 (w.heap.size + 1 + 1) 0 0 0 0 ∧ Blk w3 (w.heap.size + 1 + 1 + 1) 0 0 0 0) := by
            obtain ⟨u1, u2, u3, u4, u5⟩ := K2.out
            exact ⟨u1.below hb4 (by omega), u2.below hb4 (by omega), u3.below hb4 (by omega), u4.below hb4 (by omega), u5.below hb4 (by omega)⟩
          have K3R : Hid (Blk w3 (w.heap.size + 1 + 1 + 1 + 1 + 1) (g0 X) (g1 X) (g2 X) (g3 X)) := KR.out.below hb4 (by omega)
          clear hb3 hb4 hs3 hs2 hB2 K2 KR r0 r1 r2 r3 r4 r5 r6 r7 l0 l1 l2 l3 hH
          obtain ⟨r0, r1, r2, r3, -, -, -, -⟩ := K3R.out
          obtain ⟨l0, l1, l2, l3, -, -, -, -⟩ := K3.out.2.1
          go_wp2_with fail
          refine (rless_any X b _ (by omega) hc hX1).mono ?_
          rintro e w4 ⟨rfl, hb5⟩
          have hB4 := hB3.trans (hb5.mono hB3.size)
          have hs5 := hb5.size
          have K4 : Hid (Blk w4 (w.heap.size) (g0 (a)) (g1 (a)) (g2 (a)) (g3 (a)) ∧ Blk w4 (w.heap.size + 1) (g0 (b)) (g1 (b)) (g2 (b)) (g3 (b)) ∧ Blk w4 (w.heap.size + 1 + 1 + 1 + 1) t0 t1 t2 t3 ∧ Blk w4 (w.heap.size + 1 + 1) 0 0 0 0 ∧ Blk w4 (w.heap.size + 1 + 1 + 1) 0 0 0 0) := by
            obtain ⟨u1, u2, u3, u4, u5⟩ := K3.out
            exact ⟨u1.below hb5 (by omega), u2.below hb5 (by omega), u3.below hb5 (by omega), u4.below hb5 (by omega), u5.below hb5 (by omega)⟩
          have K4R : Hid (Blk w4 (w.heap.size + 1 + 1 + 1 + 1 + 1) (g0 X) (g1 X) (g2 X) (g3 X)) := K3R.out.below hb5 (by omega)
          have hs6 : w.heap.size + 1 + 1 + 1 + 1 + 1 < w4.heap.size := by omega
          clear hb5 hs5 hs4 hB3 K3 K3R r0 r1 r2 r3 l0 l1 l2 l3
          obtain ⟨r0, r1, r2, r3, r4, r5, r6, r7⟩ := K4R.out
          obtain ⟨l0, l1, l2, l3, l4, l5, l6, l7⟩ := K4.out.2.2.1
          obtain ⟨u1, u2, u3, u4, u5⟩ := K4.out
          have u6 := K4R.out
          go_wp2
          exact ⟨⟨64 + s, t0, t1, (t2 + 2 ^ s), t3, X - b, by omega, p0, q0, p1, q1, (by omega), y1, p3, q3, y2, ⟨i0 - 1, by have := HB.out; omega, rfl⟩, (by repeat' (first | (with_reducible exact Below.refl _ _) | (with_reducible assumption) | (with_reducible refine bdrewN _ ?_) | (with_reducible refine Below.alloc ?_ ?_ _) | (with_reducible refine Below.setCell ?_ ?_ _) | (with_reducible refine Below.drew ?_) | go_size | (simp; omega))), by simp; omega, (u1.other4 (by omega)).other (by omega), (u2.other4 (by omega)).other (by omega), (u3.other4 (by omega)).set2 _, (u6.four _ _ _ _).other (by omega), (u4.other4 (by omega)).other (by omega), (u5.other4 (by omega)).other (by omega)⟩, by simp [intOf]; omega⟩
        · have hc0 : (0 ≤ c) = False := by simp; rw [← ec.out]; unfold cmpI; split <;> (try split) <;> omega
          have hc1 : c < 0 := by simpa using hc0
          have y2 := st2 (by omega)
          clear st1 st2
          go_wp2_with fail
          refine (rcompare_any X b _ hX0 hX1 (by omega) (by omega)).mono ?_
          rintro e w3 ⟨rfl, hb3⟩
          rw [ec.out]
          obtain ⟨u1, u2, u3, u4, u5⟩ := K2.out
          have u6 := KR.out
          have hH : W2.drew.heap.size = W2.heap.size := rfl
          rw [hH] at hb3
          have hb4 : Below W2.heap.size W2 w3 := ⟨hb3.os, hb3.tape, hb3.output, hb3.size, hb3.block⟩
          have hB3 := hB2.trans (hb4.mono hB2.size)
          have hs3 := hb4.size
          go_wp2
          exact ⟨⟨64 + s, t0, t1, t2, t3, X, by omega, p0, q0, p1, q1, p2, q2, p3, q3, y2, ⟨i0 - 1, by have := HB.out; omega, rfl⟩, hB3, by omega, u1.below hb4 (by omega), u2.below hb4 (by omega), u3.below hb4 (by omega), u6.below hb4 (by omega), u4.below hb4 (by omega), u5.below hb4 (by omega)⟩, by simp [intOf]; omega⟩
      · obtain ⟨st1, st2⟩ := inv_step3 a b t0 t1 t2 t3 R s hs hb p3 q3 hI.out
        obtain ⟨bit, eB⟩ : ∃ bit : Int, g3 a / 2 ^ s % 2 = bit := ⟨_, rfl⟩
        have hb0 : 0 ≤ bit := by omega
        have hb1 : bit ≤ 1 := by omega
        obtain ⟨X, hX⟩ : ∃ X : Int, 2 * R + bit = X := ⟨_, rfl⟩
        have hX0 : 0 ≤ X := by omega
        have hX1 : X < 340282366920938463463374607431768211456 := by omega
        rw [eB, hX] at st1 st2
        have e1 : i0 / 32 = 3 := by omega
        have e3 : i0 % 32 = (s : Int) := by omega
        have e2 : IntKind.i64.wrap (i0.tdiv 32) = 3 := by rw [Int.tdiv_eq_ediv_of_nonneg hi1, e1]; rfl
        have e4 : IntKind.i64.wrap (i0.tmod 32) = (s : Int) := by rw [Int.tmod_eq_emod_of_nonneg hi1, e3]; go_arith
        obtain ⟨d0, d1, d2, d3⟩ := dig_bit R bit hb0 hb1
        rw [hX] at d0 d1 d2 d3
        have HB : Hid (i0 = (96 + s + 1 : Nat) - 1) := hi0
        clear hi0
        have K : Hid (Blk wr (w.heap.size) (g0 (a)) (g1 (a)) (g2 (a)) (g3 (a)) ∧ Blk wr (w.heap.size + 1) (g0 (b)) (g1 (b)) (g2 (b)) (g3 (b)) ∧ Blk wr (w.heap.size + 1 + 1 + 1 + 1) t0 t1 t2 t3 ∧ Blk wr (w.heap.size + 1 + 1) 0 0 0 0 ∧ Blk wr (w.heap.size + 1 + 1 + 1) 0 0 0 0) := ⟨kA, kB, kT, kX, kY⟩
        clear kA kB kT kX kY
        obtain ⟨kR0, kR1, kR2, kR3, kR4, kR5, kR6, kR7⟩ := kR
        go_wp2_with fail
        refine (rplus_any R R _ hR0 hR0 (by omega)).mono ?_
        rintro e w1 ⟨rfl, hb1⟩
        obtain ⟨n0, n1, n2, n3⟩ := (⟨bcl2 hb1 kR0 (by simp; omega), bcl2 hb1 kR1 (by simp; omega), bcl2 hb1 kR2 (by simp; omega), bcl2 hb1 kR3 (by simp; omega)⟩ : w1.cell? ⟨w.heap.size + 1 + 1 + 1 + 1 + 1, 0, none⟩ = some (.int .u64 (g0 R)) ∧ w1.cell? ⟨w.heap.size + 1 + 1 + 1 + 1 + 1, 1, none⟩ = some (.int .u64 (g1 R)) ∧ w1.cell? ⟨w.heap.size + 1 + 1 + 1 + 1 + 1, 2, none⟩ = some (.int .u64 (g2 R)) ∧ w1.cell? ⟨w.heap.size + 1 + 1 + 1 + 1 + 1, 3, none⟩ = some (.int .u64 (g3 R)))
        obtain ⟨f0, f1, f2, f3⟩ := (⟨bfr2 hb1 kR4 (by simp; omega), bfr2 hb1 kR5 (by simp; omega), bfr2 hb1 kR6 (by simp; omega), bfr2 hb1 kR7 (by simp; omega)⟩ : w1.frozen? ⟨w.heap.size + 1 + 1 + 1 + 1 + 1, 0, none⟩ = false ∧ w1.frozen? ⟨w.heap.size + 1 + 1 + 1 + 1 + 1, 1, none⟩ = false ∧ w1.frozen? ⟨w.heap.size + 1 + 1 + 1 + 1 + 1, 2, none⟩ = false ∧ w1.frozen? ⟨w.heap.size + 1 + 1 + 1 + 1 + 1, 3, none⟩ = false)
        go_wp2_with fail
        refine wp_world ?_
        intro W1 hW1
        have K1 : Blk W1 (w.heap.size) (g0 (a)) (g1 (a)) (g2 (a)) (g3 (a)) ∧ Blk W1 (w.heap.size + 1) (g0 (b)) (g1 (b)) (g2 (b)) (g3 (b)) ∧ Blk W1 (w.heap.size + 1 + 1 + 1 + 1) t0 t1 t2 t3 ∧ Blk W1 (w.heap.size + 1 + 1) 0 0 0 0 ∧ Blk W1 (w.heap.size + 1 + 1 + 1) 0 0 0 0 := by
          obtain ⟨u1, u2, u3, u4, u5⟩ := K.out
          rw [hW1]
          exact ⟨(u1.below hb1 (by omega)).other4 (by omega), (u2.below hb1 (by omega)).other4 (by omega), (u3.below hb1 (by omega)).other4 (by omega), (u4.below hb1 (by omega)).other4 (by omega), (u5.below hb1 (by omega)).other4 (by omega)⟩
        have K1R : Blk W1 (w.heap.size + 1 + 1 + 1 + 1 + 1) (g0 (R + R)) (g1 X) (g2 X) (g3 X) := by
          rw [hW1]; exact Blk.four ⟨n0, n1, n2, n3, f0, f1, f2, f3⟩ _ _ _ _
        have hB1 : Below w.heap.size w W1 := by
          have := hBw.trans (hb1.mono hBw.size)
          rw [hW1]; repeat' (first | (with_reducible exact Below.refl _ _) | (with_reducible assumption) | (with_reducible refine bdrewN _ ?_) | (with_reducible refine Below.alloc ?_ ?_ _) | (with_reducible refine Below.setCell ?_ ?_ _) | (with_reducible refine Below.drew ?_) | go_size | (simp; omega))
        have hs1 : w.heap.size + 1 + 1 + 1 + 1 + 1 < W1.heap.size := by
          have := hb1.size
          rw [hW1]; simp; omega
        clear hW1 n0 n1 n2 n3 f0 f1 f2 f3 kR0 kR1 kR2 kR3 kR4 kR5 kR6 kR7 hb1 K hBw hsz
        have KK : Hid (Blk W1 (w.heap.size) (g0 (a)) (g1 (a)) (g2 (a)) (g3 (a)) ∧ Blk W1 (w.heap.size + 1) (g0 (b)) (g1 (b)) (g2 (b)) (g3 (b)) ∧ Blk W1 (w.heap.size + 1 + 1 + 1 + 1) t0 t1 t2 t3 ∧ Blk W1 (w.heap.size + 1 + 1) 0 0 0 0 ∧ Blk W1 (w.heap.size + 1 + 1 + 1) 0 0 0 0) := K1
        have KR : Hid (Blk W1 (w.heap.size + 1 + 1 + 1 + 1 + 1) (g0 (R + R)) (g1 X) (g2 X) (g3 X)) := K1R
        obtain ⟨⟨v0, v1, v2, v3, -, -, -, -⟩, -⟩ := K1
        obtain ⟨r0, -, -, -, r4, -, -, -⟩ := K1R
        go_region
        generalize hW : World.setCell _ _ _ = W2
        have ev : IntKind.u64.wrap (g0 (R + R) + (g3 a / 2 ^ s).tmod 2) = g0 X := by
          have e := g3_bd a
          have : 0 ≤ g3 a / 2 ^ s := Int.ediv_nonneg e.1 (by omega)
          rw [Int.tmod_eq_emod_of_nonneg this, eB, d0]
          have := g0_bd X
          rw [IntKind.wrap_u64]; omega
        have K2R : Blk W2 (w.heap.size + 1 + 1 + 1 + 1 + 1) (g0 X) (g1 X) (g2 X) (g3 X) := by
          rw [← hW, ev]; exact KR.out.set0 _
        have K2 : Hid (Blk W2 (w.heap.size) (g0 (a)) (g1 (a)) (g2 (a)) (g3 (a)) ∧ Blk W2 (w.heap.size + 1) (g0 (b)) (g1 (b)) (g2 (b)) (g3 (b)) ∧ Blk W2 (w.heap.size + 1 + 1 + 1 + 1) t0 t1 t2 t3 ∧ Blk W2 (w.heap.size + 1 + 1) 0 0 0 0 ∧ Blk W2 (w.heap.size + 1 + 1 + 1) 0 0 0 0) := by
          obtain ⟨u1, u2, u3, u4, u5⟩ := KK.out
          rw [← hW]
          exact ⟨u1.other (by omega), u2.other (by omega), u3.other (by omega), u4.other (by omega), u5.other (by omega)⟩
        have hB2 : Below w.heap.size w W2 := by rw [← hW]; repeat' (first | (with_reducible exact Below.refl _ _) | (with_reducible assumption) | (with_reducible refine bdrewN _ ?_) | (with_reducible refine Below.alloc ?_ ?_ _) | (with_reducible refine Below.setCell ?_ ?_ _) | (with_reducible refine Below.drew ?_) | go_size | (simp; omega))
        have hs2 : w.heap.size + 1 + 1 + 1 + 1 + 1 < W2.heap.size := by rw [← hW]; simp; omega
        clear hW ev KK KR hB1 hs1 v0 v1 v2 v3 r0 r4 d0 d1 d2 d3
        have KR : Hid (Blk W2 (w.heap.size + 1 + 1 + 1 + 1 + 1) (g0 X) (g1 X) (g2 X) (g3 X)) := K2R
        obtain ⟨r0, r1, r2, r3, r4, r5, r6, r7⟩ := K2R
        obtain ⟨l0, l1, l2, l3, -, -, -, -⟩ := K2.out.2.1
        obtain ⟨c, ec⟩ : ∃ c : Int, Hid (cmpI X b = c) := ⟨_, rfl⟩
        by_cases hc : b ≤ X
        · have hc0 : 0 ≤ c := by rw [← ec.out]; unfold cmpI; split <;> (try split) <;> omega
          obtain ⟨y1, y2⟩ := st1 hc
          clear st1 st2
          go_wp2_with fail
          refine (rcompare_any X b _ hX0 hX1 (by omega) (by omega)).mono ?_
          rintro e w3 ⟨rfl, hb3⟩
          rw [ec.out]
          have hH : W2.drew.heap.size = W2.heap.size := rfl
          rw [hH] at hb3
          have hb4 : Below W2.heap.size W2 w3 := ⟨hb3.os, hb3.tape, hb3.output, hb3.size, hb3.block⟩
          have hB3 := hB2.trans (hb4.mono hB2.size)
          have hs3 := hb4.size
          have hs4 : w.heap.size + 1 + 1 + 1 + 1 + 1 < w3.heap.size := by omega
          have K3 : Hid (Blk w3 (w.heap.size) (g0 (a)) (g1 (a)) (g2 (a)) (g3 (a)) ∧ Blk w3 (w.heap.size + 1) (g0 (b)) (g1 (b)) (g2 (b)) (g3 (b)) ∧ Blk w3 (w.heap.size + 1 + 1 + 1 + 1) t0 t1 t2 t3 ∧ Blk w3 (w.heap.size + 1 + 1) 0 0 0 0 ∧ Blk w3 (w.heap.size + 1 + 1 + 1) 0 0 0 0) := by
            obtain ⟨u1, u2, u3, u4, u5⟩ := K2.out
            exact ⟨u1.below hb4 (by omega), u2.below hb4 (by omega), u3.below hb4 (by omega), u4.below hb4 (by omega), u5.below hb4 (by omega)⟩
          have K3R : Hid (Blk w3 (w.heap.size + 1 + 1 + 1 + 1 + 1) (g0 X) (g1 X) (g2 X) (g3 X)) := KR.out.below hb4 (by omega)
          clear hb3 hb4 hs3 hs2 hB2 K2 KR r0 r1 r2 r3 r4 r5 r6 r7 l0 l1 l2 l3 hH
          obtain ⟨r0, r1, r2, r3, -, -, -, -⟩ := K3R.out
          obtain ⟨l0, l1, l2, l3, -, -, -, -⟩ := K3.out.2.1
          go_wp2_with fail
          refine (rless_any X b _ (by omega) hc hX1).mono ?_
          rintro e w4 ⟨rfl, hb5⟩
          have hB4 := hB3.trans (hb5.mono hB3.size)
          have hs5 := hb5.size
          have K4 : Hid (Blk w4 (w.heap.size) (g0 (a)) (g1 (a)) (g2 (a)) (g3 (a)) ∧ Blk w4 (w.heap.size + 1) (g0 (b)) (g1 (b)) (g2 (b)) (g3 (b)) ∧ Blk w4 (w.heap.size + 1 + 1 + 1 + 1) t0 t1 t2 t3 ∧ Blk w4 (w.heap.size + 1 + 1) 0 0 0 0 ∧ Blk w4 (w.heap.size + 1 + 1 + 1) 0 0 0 0) := by
            obtain ⟨u1, u2, u3, u4, u5⟩ := K3.out
            exact ⟨u1.below hb5 (by omega), u2.below hb5 (by omega), u3.below hb5 (by omega), u4.below hb5 (by omega), u5.below hb5 (by omega)⟩
          have K4R : Hid (Blk w4 (w.heap.size + 1 + 1 + 1 + 1 + 1) (g0 X) (g1 X) (g2 X) (g3 X)) := K3R.out.below hb5 (by omega)
          have hs6 : w.heap.size + 1 + 1 + 1 + 1 + 1 < w4.heap.size := by omega
          clear hb5 hs5 hs4 hB3 K3 K3R r0 r1 r2 r3 l0 l1 l2 l3
          obtain ⟨r0, r1, r2, r3, r4, r5, r6, r7⟩ := K4R.out
          obtain ⟨l0, l1, l2, l3, l4, l5, l6, l7⟩ := K4.out.2.2.1
          obtain ⟨u1, u2, u3, u4, u5⟩ := K4.out
          have u6 := K4R.out
          go_wp2
          exact ⟨⟨96 + s, t0, t1, t2, (t3 + 2 ^ s), X - b, by omega, p0, q0, p1, q1, p2, q2, (by omega), y1, y2, ⟨i0 - 1, by have := HB.out; omega, rfl⟩, (by repeat' (first | (with_reducible exact Below.refl _ _) | (with_reducible assumption) | (with_reducible refine bdrewN _ ?_) | (with_reducible refine Below.alloc ?_ ?_ _) | (with_reducible refine Below.setCell ?_ ?_ _) | (with_reducible refine Below.drew ?_) | go_size | (simp; omega))), by simp; omega, (u1.other4 (by omega)).other (by omega), (u2.other4 (by omega)).other (by omega), (u3.other4 (by omega)).set3 _, (u6.four _ _ _ _).other (by omega), (u4.other4 (by omega)).other (by omega), (u5.other4 (by omega)).other (by omega)⟩, by simp [intOf]; omega⟩
        · have hc0 : (0 ≤ c) = False := by simp; rw [← ec.out]; unfold cmpI; split <;> (try split) <;> omega
          have hc1 : c < 0 := by simpa using hc0
          have y2 := st2 (by omega)
          clear st1 st2
          go_wp2_with fail
          refine (rcompare_any X b _ hX0 hX1 (by omega) (by omega)).mono ?_
          rintro e w3 ⟨rfl, hb3⟩
          rw [ec.out]
          obtain ⟨u1, u2, u3, u4, u5⟩ := K2.out
          have u6 := KR.out
          have hH : W2.drew.heap.size = W2.heap.size := rfl
          rw [hH] at hb3
          have hb4 : Below W2.heap.size W2 w3 := ⟨hb3.os, hb3.tape, hb3.output, hb3.size, hb3.block⟩
          have hB3 := hB2.trans (hb4.mono hB2.size)
          have hs3 := hb4.size
          go_wp2
          exact ⟨⟨96 + s, t0, t1, t2, t3, X, by omega, p0, q0, p1, q1, p2, q2, p3, q3, y2, ⟨i0 - 1, by have := HB.out; omega, rfl⟩, hB3, by omega, u1.below hb4 (by omega), u2.below hb4 (by omega), u3.below hb4 (by omega), u6.below hb4 (by omega), u4.below hb4 (by omega), u5.below hb4 (by omega)⟩, by simp [intOf]; omega⟩

end Go.Proofs.YticmebamclacaaaGreatDoor

namespace Go.Proofs.YticmebamclacaaaGreatDoor
open Go.RowKit

set_option maxRecDepth 100000 in
/-- '==' between two rows of four digits. -/
theorem eq_dig (w : World) (x0 x1 x2 x3 y0 y1 y2 y3 : Int) :
    Sem.run Tryz.prog (Op.equalIn 9999 196 (.agg #[.int .u64 x0, .int .u64 x1, .int .u64 x2, .int .u64 x3]) (.agg #[.int .u64 y0, .int .u64 y1, .int .u64 y2, .int .u64 y3])) w = .ok (x0 == y0 && (x1 == y1 && (x2 == y2 && x3 == y3))) w := by
  have hp : Tryz.prog.plainKey 180 = true := by kernel_rfl
  have hc : Tryz.prog.cellsOf 180 = 1 := by kernel_rfl
  obtain ⟨i, hi⟩ : ∃ i, Tryz.prog.info? 180 = some i := ⟨_, rfl⟩
  have P0 : ∀ (xs : Array Value) (o : Nat) (a : Value), xs[o]? = some a → (part 180 xs o).run Tryz.prog w = .ok a w := fun xs o a h => run_part_plain w hp h
  have E0 : ∀ a b : Int, (Op.equalIn 9998 180 (.int .u64 a) (.int .u64 b)).run Tryz.prog w = .ok (a == b) w := fun a b => run_equalIn_int w 9997 _ _ _ a b Tryz.underlying180
  rw [run_equalIn_array w 9998 _ _ Tryz.underlying196 hi, hc]
  simp only [show List.range 4 = [0, 1, 2, 3] from rfl, Op.eqItems, Sem.run_bind, Nat.mul_one]
  rw [P0 _ 0 (.int .u64 x0) rfl, Result.andThen_ok, P0 _ 0 (.int .u64 y0) rfl, Result.andThen_ok, E0, Result.andThen_ok]
  by_cases h0 : x0 = y0
  · by_cases h1 : x1 = y1
    · by_cases h2 : x2 = y2
      · by_cases h3 : x3 = y3
        · simp [h0, h1, h2, h3, P0, E0]
        · simp [h0, h1, h2, h3, P0, E0]
      · simp [h0, h1, h2, P0, E0]
    · simp [h0, h1, P0, E0]
  · simp [h0]

theorem eq_digT (w : World) (x0 x1 x2 x3 : Int) :
    Sem.run Tryz.prog (Op.equalIn 9999 196 (.agg #[.int .u64 x0, .int .u64 x1, .int .u64 x2, .int .u64 x3]) (.agg #[.int .u64 x0, .int .u64 x1, .int .u64 x2, .int .u64 x3])) w = .ok true w := by
  rw [eq_dig]; simp
theorem eq_digF (w : World) (x0 x1 x2 x3 y0 y1 y2 y3 : Int) (h : ¬ (x0 = y0 ∧ x1 = y1 ∧ x2 = y2 ∧ x3 = y3)) :
    Sem.run Tryz.prog (Op.equalIn 9999 196 (.agg #[.int .u64 x0, .int .u64 x1, .int .u64 x2, .int .u64 x3]) (.agg #[.int .u64 y0, .int .u64 y1, .int .u64 y2, .int .u64 y3])) w = .ok false w := by
  rw [eq_dig]
  have : (x0 == y0 && (x1 == y1 && (x2 == y2 && x3 == y3))) = false := by simpa using h
  rw [this]

/-- The number that lies in a block of four digits. -/
def cellI (W : World) (B o : Nat) : Int := match W.cell? ⟨B, o, none⟩ with | some v => intOf v | none => 0
def bigAt (W : World) (B : Nat) : Nat := (cellI W B 0 + cellI W B 1 * 4294967296 + cellI W B 2 * 18446744073709551616 + cellI W B 3 * 79228162514264337593543950336).toNat
theorem Blk.big {W : World} {B : Nat} {x : Int} (h : Blk W B (g0 x) (g1 x) (g2 x) (g3 x)) (h0 : 0 ≤ x) (h1 : x < 340282366920938463463374607431768211456) : bigAt W B = x.toNat := by
  obtain ⟨c0, c1, c2, c3, -, -, -, -⟩ := h
  have e := g_sum x h0 h1
  simp only [bigAt, cellI, c0, c1, c2, c3, intOf]
  rw [← e]

theorem g_zero : g0 0 = 0 ∧ g1 0 = 0 ∧ g2 0 = 0 ∧ g3 0 = 0 := by decide
theorem g_pos (x : Int) (h0 : 0 ≤ x) (h1 : x < 340282366920938463463374607431768211456) (h : x ≠ 0) : ¬ (g0 x = 0 ∧ g1 x = 0 ∧ g2 x = 0 ∧ g3 x = 0) := by
  unfold g0 g1 g2 g3; omega
theorem Blk.fresh {W : World} {T : TypeId} {x0 x1 x2 x3 : Int} : Blk (W.alloc (.cells #[.int .u64 x0, .int .u64 x1, .int .u64 x2, .int .u64 x3] T)) W.heap.size x0 x1 x2 x3 := by
  constructor <;> simp (maxDischargeDepth := 12) [go_sem]
theorem Blk.alloc {W : World} {B : Nat} {O : Obj} {x0 x1 x2 x3 : Int} (h : Blk W B x0 x1 x2 x3) (hB : B < W.heap.size) : Blk (W.alloc O) B x0 x1 x2 x3 :=
  h.below (n := W.heap.size) ⟨rfl, rfl, rfl, by simp, fun k hk => Below.heap_alloc _ _ _ (by omega)⟩ hB

set_option maxRecDepth 100000 in
set_option maxHeartbeats 4000000 in
theorem rcommon_any (a b : Int) (w : World) (ha : 0 ≤ a) (ha' : a < 340282366920938463463374607431768211456) (hb : 0 ≤ b) (hb' : b ≤ 170141183460469231731687303715884105728) :
    Calls Tryz.prog 151 #[.agg #[.int .u64 (g0 a), .int .u64 (g1 a), .int .u64 (g2 a), .int .u64 (g3 a)], .agg #[.int .u64 (g0 b), .int .u64 (g1 b), .int .u64 (g2 b), .int .u64 (g3 b)]] w fun e w' => e = .returned (.agg #[.int .u64 (g0 (gc a b)), .int .u64 (g1 (gc a b)), .int .u64 (g2 (gc a b)), .int .u64 (g3 (gc a b))]) ∧ Below w.heap.size w w' := by
  go_enter Tryz.func151, Tryz.ntmps151
  go_wp2
  go_loopw [9] (fun _ wr => ∃ x y : Int, 0 ≤ x ∧ x < 340282366920938463463374607431768211456 ∧ 0 ≤ y ∧ y ≤ 170141183460469231731687303715884105728 ∧ Hid (gc x y = gc a b) ∧ Below w.heap.size w wr ∧ w.heap.size + 1 + 1 + 1 < wr.heap.size ∧ Blk wr (w.heap.size) (g0 (x)) (g1 (x)) (g2 (x)) (g3 (x)) ∧ Blk wr (w.heap.size + 1) (g0 (y)) (g1 (y)) (g2 (y)) (g3 (y)) ∧ Blk wr (w.heap.size + 1 + 1) (0) (0) (0) (0) ∧ Blk wr (w.heap.size + 1 + 1 + 1) (0) (0) (0) (0)) (fun _ wr => bigAt wr (w.heap.size + 1))
  case atStart =>
    refine ⟨a, b, ha, ha', hb, hb', rfl, by go_grown, by go_size, ?_, ?_, ?_, ?_⟩
    all_goals (constructor <;> simp (maxDischargeDepth := 12) [go_sem])
  case round =>
    obtain ⟨x, y, hx, hx', hy, hy', hg, hBw, hsz, kX, kY, kO, kN⟩ := hrel
    by_cases hy0 : y = 0
    · subst hy0
      have hgx : Hid (gc a b = x) := by rw [← hg.out]; exact gc_zero x hx
      clear hg
      obtain ⟨c0, c1, c2, c3, -, -, -, -⟩ := kY
      rw [g_zero.1] at c0
      rw [g_zero.2.1] at c1
      rw [g_zero.2.2.1] at c2
      rw [g_zero.2.2.2] at c3
      obtain ⟨n0, n1, n2, n3, -, -, -, -⟩ := kN
      have kO' := kO
      obtain ⟨o0, o1, o2, o3, o4, o5, o6, o7⟩ := kO
      obtain ⟨x0, x1, x2, x3, -, -, -, -⟩ := kX
      have he := eq_digT wr 0 0 0 0
      go_wp2
      have hB9 : Below w.heap.size w ((((wr.setCell ⟨w.heap.size + 1 + 1, 0, none⟩ (.int .u64 (g0 x))).setCell ⟨w.heap.size + 1 + 1, 1, none⟩ (.int .u64 (g1 x))).setCell ⟨w.heap.size + 1 + 1, 2, none⟩ (.int .u64 (g2 x))).setCell ⟨w.heap.size + 1 + 1, 3, none⟩ (.int .u64 (g3 x))) := (by repeat' (first | (with_reducible exact Below.refl _ _) | (with_reducible assumption) | (with_reducible refine bdrewN _ ?_) | (with_reducible refine Below.alloc ?_ ?_ _) | (with_reducible refine Below.setCell ?_ ?_ _) | (with_reducible refine Below.drew ?_) | go_size | (simp; omega)))
      have kO2 := kO'.four (g0 x) (g1 x) (g2 x) (g3 x)
      generalize World.setCell _ _ _ = W9 at hB9 kO2 ⊢
      obtain ⟨v0, v1, v2, v3, -, -, -, -⟩ := kO2
      refine bodyPost_ret (by simp [results, Tryz.results151, go_sem, v0, v1, v2, v3]; try rfl) rfl ?_
      exact ⟨ret_big (by rw [hgx.out]) (by rw [hgx.out]) (by rw [hgx.out]) (by rw [hgx.out]), hB9⟩
    · have hd := g_pos y hy (by omega) hy0
      have he := eq_digF wr _ _ _ _ 0 0 0 0 hd
      clear hd
      have kX' : Hid (Blk wr (w.heap.size) (g0 x) (g1 x) (g2 x) (g3 x)) := kX
      have kY' : Hid (Blk wr (w.heap.size + 1) (g0 y) (g1 y) (g2 y) (g3 y)) := kY
      have kO' : Hid (Blk wr (w.heap.size + 1 + 1) 0 0 0 0) := kO
      have kN' : Hid (Blk wr (w.heap.size + 1 + 1 + 1) 0 0 0 0) := kN
      clear kO
      obtain ⟨x0, x1, x2, x3, -, -, -, -⟩ := kX
      obtain ⟨y0, y1, y2, y3, -, -, -, -⟩ := kY
      obtain ⟨n0, n1, n2, n3, -, -, -, -⟩ := kN
      go_wp2_with fail
      refine (rdiv_any x y _ hx hx' (by omega) hy').mono ?_
      rintro e w1 ⟨rfl, hb1⟩
      have hs1 := hb1.size
      have u0 := kX'.out.below hb1 (by omega)
      have u1 := kY'.out.below hb1 (by omega)
      have u2 := kO'.out.below hb1 (by omega)
      have u3 := kN'.out.below hb1 (by omega)
      have hB1 := hBw.trans (hb1.mono hBw.size)
      have hsz1 : w.heap.size + 1 + 1 + 1 < w1.heap.size := by omega
      have U : Hid (Blk w1 (w.heap.size) (g0 x) (g1 x) (g2 x) (g3 x) ∧ Blk w1 (w.heap.size + 1) (g0 y) (g1 y) (g2 y) (g3 y) ∧ Blk w1 (w.heap.size + 1 + 1) 0 0 0 0 ∧ Blk w1 (w.heap.size + 1 + 1 + 1) 0 0 0 0) := ⟨u0, u1, u2, u3⟩
      clear u2 u3 kX' hb1 hs1 hBw hsz x0 x1 x2 x3 y0 y1 y2 y3 n0 n1 n2 n3 he
      clear u0 u1
      go_upto_region 4 with fail
      refine wp_world ?_
      intro W1 hW1
      obtain ⟨u0, u1, u2, u3⟩ := U.out
      have v0 : Blk W1 (w.heap.size) (g0 x) (g1 x) (g2 x) (g3 x) := by rw [hW1]; exact (u0.alloc (by omega)).alloc (by simp; omega)
      have v1 : Blk W1 (w.heap.size + 1) (g0 y) (g1 y) (g2 y) (g3 y) := by rw [hW1]; exact (u1.alloc (by omega)).alloc (by simp; omega)
      have v2 : Blk W1 (w.heap.size + 1 + 1) 0 0 0 0 := by rw [hW1]; exact (u2.alloc (by omega)).alloc (by simp; omega)
      have v3 : Blk W1 (w.heap.size + 1 + 1 + 1) 0 0 0 0 := by rw [hW1]; exact (u3.alloc (by omega)).alloc (by simp; omega)
      have v4 : Blk W1 (w1.heap.size + 1) (g0 (x % y)) (g1 (x % y)) (g2 (x % y)) (g3 (x % y)) := by
        rw [hW1]; have := Blk.fresh (W := w1.alloc (.cells #[.int .u64 (g0 (x / y)), .int .u64 (g1 (x / y)), .int .u64 (g2 (x / y)), .int .u64 (g3 (x / y))] 198)) (T := 198) (x0 := g0 (x % y)) (x1 := g1 (x % y)) (x2 := g2 (x % y)) (x3 := g3 (x % y))
        simpa using this
      have hB2 : Below w.heap.size w W1 := by rw [hW1]; exact (by repeat' (first | (with_reducible exact Below.refl _ _) | (with_reducible assumption) | (with_reducible refine bdrewN _ ?_) | (with_reducible refine Below.alloc ?_ ?_ _) | (with_reducible refine Below.setCell ?_ ?_ _) | (with_reducible refine Below.drew ?_) | go_size | (simp; omega)))
      have hs2 : w.heap.size + 1 + 1 + 1 < W1.heap.size := by rw [hW1]; simp; omega
      clear hW1 u0 u1 u2 u3 U hB1
      have V : Hid (Blk W1 (w.heap.size) (g0 x) (g1 x) (g2 x) (g3 x) ∧ Blk W1 (w.heap.size + 1) (g0 y) (g1 y) (g2 y) (g3 y) ∧ Blk W1 (w.heap.size + 1 + 1) 0 0 0 0 ∧ Blk W1 (w.heap.size + 1 + 1 + 1) 0 0 0 0) := ⟨v0, v1, v2, v3⟩
      clear v2 v3
      have hne1 : w1.heap.size + 1 ≠ w.heap.size := by omega
      have hne2 : w1.heap.size + 1 ≠ w.heap.size + 1 := by omega
      obtain ⟨x0, x1, x2, x3, x4, x5, x6, x7⟩ := v0
      obtain ⟨y0, y1, y2, y3, y4, y5, y6, y7⟩ := v1
      obtain ⟨r0, r1, r2, r3, -, -, -, -⟩ := v4
      go_wp2
      obtain ⟨u0, u1, u2, u3⟩ := V.out
      have m0 := Int.emod_nonneg x hy0
      have m1 := Int.emod_lt_of_pos x (show 0 < y by omega)
      refine ⟨⟨y, x % y, hy, by omega, m0, by omega, (gc_step x y hx (by omega)).trans hg.out, (by repeat' (first | (with_reducible exact Below.refl _ _) | (with_reducible assumption) | (with_reducible refine bdrewN _ ?_) | (with_reducible refine Below.alloc ?_ ?_ _) | (with_reducible refine Below.setCell ?_ ?_ _) | (with_reducible refine Below.drew ?_) | go_size | (simp; omega))), by simp; omega, ?_, ?_, ?_, ?_⟩, ?_⟩
      · exact (u0.four _ _ _ _).other4 (by omega)
      · exact (u1.other4 (B := w.heap.size) (by omega)).four _ _ _ _
      · exact (u2.other4 (by omega)).other4 (by omega)
      · exact (u3.other4 (by omega)).other4 (by omega)
      refine Nat.lt_of_le_of_lt (Nat.le_of_eq (Blk.big (x := x % y) ((u1.other4 (B := w.heap.size) (by omega)).four _ _ _ _) m0 (by omega))) ?_
      rw [kY'.out.big hy (by omega)]
      omega

end Go.Proofs.YticmebamclacaaaGreatDoor

namespace Go.Proofs.YticmebamclacaaaGreatDoor
open Go.RowKit

/-- A block of two numbers, which may be written. -/
structure Blk2 (W : World) (B : Nat) (v0 v1 : Int) : Prop where
  c0 : W.cell? ⟨B, 0, none⟩ = some (.int .i64 v0)
  c1 : W.cell? ⟨B, 1, none⟩ = some (.int .i64 v1)
  f0 : W.frozen? ⟨B, 0, none⟩ = false
  f1 : W.frozen? ⟨B, 1, none⟩ = false
theorem Blk2.below {W W' : World} {B n : Nat} {v0 v1 : Int} (h : Blk2 W B v0 v1) (hb : Below n W W') (hB : B < n) : Blk2 W' B v0 v1 :=
  ⟨(hb.cell (p := ⟨B, 0, none⟩) hB).trans h.c0, (hb.cell (p := ⟨B, 1, none⟩) hB).trans h.c1, (hb.frozen (p := ⟨B, 0, none⟩) hB).trans h.f0, (hb.frozen (p := ⟨B, 1, none⟩) hB).trans h.f1⟩
theorem Blk2.two {W : World} {B : Nat} {v0 v1 : Int} (h : Blk2 W B v0 v1) (x0 x1 : Int) : Blk2 ((W.setCell ⟨B, 0, none⟩ (.int .i64 x0)).setCell ⟨B, 1, none⟩ (.int .i64 x1)) B x0 x1 := by
  obtain ⟨c0, c1, f0, f1⟩ := h
  constructor <;> simp (maxDischargeDepth := 12) [go_sem, c0, c1, f0, f1]
theorem gc_part (n d : Int) (hn : 0 ≤ n) (hd : 0 < d) : 0 < gc n d ∧ gc n d ≤ d ∧ 0 ≤ n / gc n d ∧ n / gc n d ≤ n ∧ 0 < d / gc n d ∧ d / gc n d ≤ d ∧ (0 < n → 0 < n / gc n d) := by
  have h1 := gc_pos n d hd
  have h2 := gc_le n d hd
  have pos : ∀ m, 0 < m → gc n d ∣ m → 0 < m / gc n d := by
    intro m hm hk
    obtain ⟨c, hc⟩ := hk
    have hc0 : 0 < c := by
      rcases Int.lt_or_le 0 c with h | h
      · exact h
      · have := Int.mul_le_mul_of_nonneg_left h (Int.le_of_lt h1); omega
    have e : m / gc n d = c := by
      have : m / gc n d = gc n d * c / gc n d := congrArg (· / gc n d) hc
      rw [this, Int.mul_ediv_cancel_left _ (by omega)]
    omega
  exact ⟨h1, h2, Int.ediv_nonneg hn (by omega), div_le_self n _ hn h1, pos d hd (gc_dvd_right n d (by omega)), div_le_self d _ (by omega) h1, fun h => pos n h (gc_dvd_left n d hn)⟩

theorem low64 (x : Int) (h0 : 0 ≤ x) (h1 : x ≤ 18446744073709551615) : g1 x * 4294967296 + g0 x = x := by unfold g0 g1; omega

set_option maxRecDepth 100000 in
set_option maxHeartbeats 8000000 in
theorem rmade_raw (b : Bool) (n d G P Q c1 c2 N D E : Int) (w : World) (hn : 0 ≤ n) (hn' : n ≤ 170141183460469231731687303715884105728) (hd : 0 < d) (hd' : d ≤ 170141183460469231731687303715884105728)
    (eG : Hid (gc n d = G)) (eP : Hid (n / G = P)) (eQ : Hid (d / G = Q)) (hG : 0 < G) (hG' : G ≤ d) (hP : 0 ≤ P) (hP' : P ≤ n) (hQ : 0 < Q) (hQ' : Q ≤ d) (e1 : Hid (cmpI P 9223372036854775808 = c1)) (e2 : Hid (cmpI Q 9223372036854775808 = c2))
    (hcase : (0 ≤ c2 ∧ N = 0 ∧ D = 0 ∧ E = 10) ∨ (c2 < 0 ∧ 0 < c1 ∧ N = 0 ∧ D = 0 ∧ E = 10) ∨ (c2 < 0 ∧ c1 = 0 ∧ b = false ∧ N = 0 ∧ D = 0 ∧ E = 10) ∨ (c2 < 0 ∧ c1 = 0 ∧ b = true ∧ 0 < P ∧ P ≤ 9223372036854775808 ∧ Q < 9223372036854775808 ∧ N = -P ∧ D = Q ∧ E = 0) ∨ (c2 < 0 ∧ c1 < 0 ∧ b = false ∧ P < 9223372036854775808 ∧ Q < 9223372036854775808 ∧ N = P ∧ D = Q ∧ E = 0) ∨ (c2 < 0 ∧ c1 < 0 ∧ b = true ∧ 0 < P ∧ P < 9223372036854775808 ∧ Q < 9223372036854775808 ∧ N = -P ∧ D = Q ∧ E = 0)) :
    Calls Tryz.prog 123 #[.bool b, .agg #[.int .u64 (g0 n), .int .u64 (g1 n), .int .u64 (g2 n), .int .u64 (g3 n)], .agg #[.int .u64 (g0 d), .int .u64 (g1 d), .int .u64 (g2 d), .int .u64 (g3 d)]] w fun e w' => e = .returned (.tuple #[.agg #[.int .i64 N, .int .i64 D], .int .i64 E]) ∧ Below w.heap.size w w' := by
  go_enter Tryz.func123, Tryz.ntmps123
  go_upto_region 1 with fail
  refine wp_world ?_
  intro W0 hW0
  have hs0 : w.heap.size + 1 + 1 < W0.heap.size := by rw [hW0]; simp
  have bN : Blk W0 (w.heap.size) (g0 (n)) (g1 (n)) (g2 (n)) (g3 (n)) := by rw [hW0]; constructor <;> simp (maxDischargeDepth := 12) [go_sem]
  have bD : Blk W0 (w.heap.size + 1) (g0 (d)) (g1 (d)) (g2 (d)) (g3 (d)) := by rw [hW0]; constructor <;> simp (maxDischargeDepth := 12) [go_sem]
  have bR : Blk2 W0 (w.heap.size + 1 + 1) 0 0 := by rw [hW0]; constructor <;> simp (maxDischargeDepth := 12) [go_sem]
  have hB0 : Below w.heap.size w W0 := by rw [hW0]; exact (by repeat' (first | (with_reducible exact Below.refl _ _) | (with_reducible assumption) | (with_reducible refine bdrewN _ ?_) | (with_reducible refine Below.alloc ?_ ?_ _) | (with_reducible refine Below.setCell ?_ ?_ _) | (with_reducible refine Below.drew ?_) | go_size | (simp; omega)))
  clear hW0
  have HbN : Hid (Blk W0 (w.heap.size) (g0 (n)) (g1 (n)) (g2 (n)) (g3 (n))) := bN
  have HbD : Hid (Blk W0 (w.heap.size + 1) (g0 (d)) (g1 (d)) (g2 (d)) (g3 (d))) := bD
  have HbR : Hid (Blk2 W0 (w.heap.size + 1 + 1) (0) (0)) := bR
  clear bN bD bR
  obtain ⟨bD_0, bD_1, bD_2, bD_3, -, -, -, -⟩ := HbD.out
  obtain ⟨bN_0, bN_1, bN_2, bN_3, -, -, -, -⟩ := HbN.out
  go_wp2_with fail
  refine (rcommon_any n d _ hn (by omega) (by omega) hd').mono ?_
  rintro e w1 ⟨rfl, hb1⟩
  have hz1 := hb1.size
  clear bD_0 bD_1 bD_2 bD_3
  clear bN_0 bN_1 bN_2 bN_3
  rw [eG.out]
  go_upto_region 2 with fail
  refine wp_world ?_
  intro W1 hW1
  have hst1 : Below W0.heap.size W0 W1 := by rw [hW1]; exact (by repeat' (first | (with_reducible exact Below.refl _ _) | (with_reducible assumption) | (with_reducible refine bdrewN _ ?_) | (with_reducible refine Below.alloc ?_ ?_ _) | (with_reducible refine Below.setCell ?_ ?_ _) | (with_reducible refine Below.drew ?_) | go_size | (simp; omega)))
  have hB1 : Below w.heap.size w W1 := hB0.trans (hst1.mono hB0.size)
  have hs1 : w.heap.size + 1 + 1 < W1.heap.size := by have := hst1.size; omega
  have bN : Blk W1 (w.heap.size) (g0 (n)) (g1 (n)) (g2 (n)) (g3 (n)) := HbN.out.below hst1 (by omega)
  have bD : Blk W1 (w.heap.size + 1) (g0 (d)) (g1 (d)) (g2 (d)) (g3 (d)) := HbD.out.below hst1 (by omega)
  have bR : Blk2 W1 (w.heap.size + 1 + 1) (0) (0) := HbR.out.below hst1 (by omega)
  have bG : Blk W1 (w1.heap.size) (g0 (G)) (g1 (G)) (g2 (G)) (g3 (G)) := by rw [hW1]; constructor <;> simp (maxDischargeDepth := 12) [go_sem]
  have hl_bG : w1.heap.size < W1.heap.size := by rw [hW1]; first | (simp; done) | (simp; omega)
  clear hW1 hst1 hb1 hB0 hs0 hz1 HbN HbD HbR
  have HbN : Hid (Blk W1 (w.heap.size) (g0 (n)) (g1 (n)) (g2 (n)) (g3 (n))) := bN
  have HbD : Hid (Blk W1 (w.heap.size + 1) (g0 (d)) (g1 (d)) (g2 (d)) (g3 (d))) := bD
  have HbR : Hid (Blk2 W1 (w.heap.size + 1 + 1) (0) (0)) := bR
  have HbG : Hid (Blk W1 (w1.heap.size) (g0 (G)) (g1 (G)) (g2 (G)) (g3 (G))) := bG
  clear bN bD bR bG
  obtain ⟨bG_0, bG_1, bG_2, bG_3, -, -, -, -⟩ := HbG.out
  obtain ⟨bN_0, bN_1, bN_2, bN_3, -, -, -, -⟩ := HbN.out
  go_wp2_with fail
  refine (rdiv_any n G _ hn (by omega) hG (by omega)).mono ?_
  rintro e w2 ⟨rfl, hb2⟩
  have hz2 := hb2.size
  clear bG_0 bG_1 bG_2 bG_3
  clear bN_0 bN_1 bN_2 bN_3
  rw [eP.out]
  go_upto_region 3 with fail
  refine wp_world ?_
  intro W2 hW2
  have hst2 : Below W1.heap.size W1 W2 := by rw [hW2]; exact (by repeat' (first | (with_reducible exact Below.refl _ _) | (with_reducible assumption) | (with_reducible refine bdrewN _ ?_) | (with_reducible refine Below.alloc ?_ ?_ _) | (with_reducible refine Below.setCell ?_ ?_ _) | (with_reducible refine Below.drew ?_) | go_size | (simp; omega)))
  have hB2 : Below w.heap.size w W2 := hB1.trans (hst2.mono hB1.size)
  have hs2 : w.heap.size + 1 + 1 < W2.heap.size := by have := hst2.size; omega
  have bN : Blk W2 (w.heap.size) (g0 (n)) (g1 (n)) (g2 (n)) (g3 (n)) := HbN.out.below hst2 (by omega)
  have bD : Blk W2 (w.heap.size + 1) (g0 (d)) (g1 (d)) (g2 (d)) (g3 (d)) := HbD.out.below hst2 (by omega)
  have bR : Blk2 W2 (w.heap.size + 1 + 1) (0) (0) := HbR.out.below hst2 (by omega)
  have bG : Blk W2 (w1.heap.size) (g0 (G)) (g1 (G)) (g2 (G)) (g3 (G)) := HbG.out.below hst2 (by omega)
  have bP : Blk W2 (w2.heap.size) (g0 (P)) (g1 (P)) (g2 (P)) (g3 (P)) := by rw [hW2]; constructor <;> simp (maxDischargeDepth := 12) [go_sem]
  have hl_bP : w2.heap.size < W2.heap.size := by rw [hW2]; first | (simp; done) | (simp; omega)
  have bX : Blk W2 (w2.heap.size + 1) (g0 (n % G)) (g1 (n % G)) (g2 (n % G)) (g3 (n % G)) := by rw [hW2]; constructor <;> simp (maxDischargeDepth := 12) [go_sem]
  have hl_bX : w2.heap.size + 1 < W2.heap.size := by rw [hW2]; first | (simp; done) | (simp; omega)
  have hl_bG : w1.heap.size < W2.heap.size := by have := hst2.size; omega
  clear hW2 hst2 hb2 hB1 hs1 hz2 HbN HbD HbR HbG
  have HbN : Hid (Blk W2 (w.heap.size) (g0 (n)) (g1 (n)) (g2 (n)) (g3 (n))) := bN
  have HbD : Hid (Blk W2 (w.heap.size + 1) (g0 (d)) (g1 (d)) (g2 (d)) (g3 (d))) := bD
  have HbR : Hid (Blk2 W2 (w.heap.size + 1 + 1) (0) (0)) := bR
  have HbG : Hid (Blk W2 (w1.heap.size) (g0 (G)) (g1 (G)) (g2 (G)) (g3 (G))) := bG
  have HbP : Hid (Blk W2 (w2.heap.size) (g0 (P)) (g1 (P)) (g2 (P)) (g3 (P))) := bP
  have HbX : Hid (Blk W2 (w2.heap.size + 1) (g0 (n % G)) (g1 (n % G)) (g2 (n % G)) (g3 (n % G))) := bX
  clear bN bD bR bG bP bX
  obtain ⟨bD_0, bD_1, bD_2, bD_3, -, -, -, -⟩ := HbD.out
  obtain ⟨bG_0, bG_1, bG_2, bG_3, -, -, -, -⟩ := HbG.out
  go_wp2_with fail
  refine (rdiv_any d G _ (by omega) (by omega) hG (by omega)).mono ?_
  rintro e w3 ⟨rfl, hb3⟩
  have hz3 := hb3.size
  clear bD_0 bD_1 bD_2 bD_3
  clear bG_0 bG_1 bG_2 bG_3
  rw [eQ.out]
  go_upto_region 4 with fail
  refine wp_world ?_
  intro W3 hW3
  have hst3 : Below W2.heap.size W2 W3 := by rw [hW3]; exact (by repeat' (first | (with_reducible exact Below.refl _ _) | (with_reducible assumption) | (with_reducible refine bdrewN _ ?_) | (with_reducible refine Below.alloc ?_ ?_ _) | (with_reducible refine Below.setCell ?_ ?_ _) | (with_reducible refine Below.drew ?_) | go_size | (simp; omega)))
  have hB3 : Below w.heap.size w W3 := hB2.trans (hst3.mono hB2.size)
  have hs3 : w.heap.size + 1 + 1 < W3.heap.size := by have := hst3.size; omega
  have bN : Blk W3 (w.heap.size) (g0 (n)) (g1 (n)) (g2 (n)) (g3 (n)) := HbN.out.below hst3 (by omega)
  have bD : Blk W3 (w.heap.size + 1) (g0 (d)) (g1 (d)) (g2 (d)) (g3 (d)) := HbD.out.below hst3 (by omega)
  have bR : Blk2 W3 (w.heap.size + 1 + 1) (0) (0) := HbR.out.below hst3 (by omega)
  have bG : Blk W3 (w1.heap.size) (g0 (G)) (g1 (G)) (g2 (G)) (g3 (G)) := HbG.out.below hst3 (by omega)
  have bP : Blk W3 (w2.heap.size) (g0 (P)) (g1 (P)) (g2 (P)) (g3 (P)) := HbP.out.below hst3 (by omega)
  have bX : Blk W3 (w2.heap.size + 1) (g0 (n % G)) (g1 (n % G)) (g2 (n % G)) (g3 (n % G)) := HbX.out.below hst3 (by omega)
  have bQ : Blk W3 (w3.heap.size) (g0 (Q)) (g1 (Q)) (g2 (Q)) (g3 (Q)) := by rw [hW3]; constructor <;> simp (maxDischargeDepth := 12) [go_sem]
  have hl_bQ : w3.heap.size < W3.heap.size := by rw [hW3]; first | (simp; done) | (simp; omega)
  have bY : Blk W3 (w3.heap.size + 1) (g0 (d % G)) (g1 (d % G)) (g2 (d % G)) (g3 (d % G)) := by rw [hW3]; constructor <;> simp (maxDischargeDepth := 12) [go_sem]
  have hl_bY : w3.heap.size + 1 < W3.heap.size := by rw [hW3]; first | (simp; done) | (simp; omega)
  have hl_bG : w1.heap.size < W3.heap.size := by have := hst3.size; omega
  have hl_bP : w2.heap.size < W3.heap.size := by have := hst3.size; omega
  have hl_bX : w2.heap.size + 1 < W3.heap.size := by have := hst3.size; omega
  clear hW3 hst3 hb3 hB2 hs2 hz3 HbN HbD HbR HbG HbP HbX
  have HbN : Hid (Blk W3 (w.heap.size) (g0 (n)) (g1 (n)) (g2 (n)) (g3 (n))) := bN
  have HbD : Hid (Blk W3 (w.heap.size + 1) (g0 (d)) (g1 (d)) (g2 (d)) (g3 (d))) := bD
  have HbR : Hid (Blk2 W3 (w.heap.size + 1 + 1) (0) (0)) := bR
  have HbG : Hid (Blk W3 (w1.heap.size) (g0 (G)) (g1 (G)) (g2 (G)) (g3 (G))) := bG
  have HbP : Hid (Blk W3 (w2.heap.size) (g0 (P)) (g1 (P)) (g2 (P)) (g3 (P))) := bP
  have HbX : Hid (Blk W3 (w2.heap.size + 1) (g0 (n % G)) (g1 (n % G)) (g2 (n % G)) (g3 (n % G))) := bX
  have HbQ : Hid (Blk W3 (w3.heap.size) (g0 (Q)) (g1 (Q)) (g2 (Q)) (g3 (Q))) := bQ
  have HbY : Hid (Blk W3 (w3.heap.size + 1) (g0 (d % G)) (g1 (d % G)) (g2 (d % G)) (g3 (d % G))) := bY
  clear bN bD bR bG bP bX bQ bY
  go_wp2_with fail
  refine (rof_any 9223372036854775808 _ (by omega) (by omega)).mono ?_
  rintro e w4 ⟨rfl, hb4⟩
  have hz4 := hb4.size
  go_upto_region 5 with fail
  refine wp_world ?_
  intro W4 hW4
  have hst4 : Below W3.heap.size W3 W4 := by rw [hW4]; exact (by repeat' (first | (with_reducible exact Below.refl _ _) | (with_reducible assumption) | (with_reducible refine bdrewN _ ?_) | (with_reducible refine Below.alloc ?_ ?_ _) | (with_reducible refine Below.setCell ?_ ?_ _) | (with_reducible refine Below.drew ?_) | go_size | (simp; omega)))
  have hB4 : Below w.heap.size w W4 := hB3.trans (hst4.mono hB3.size)
  have hs4 : w.heap.size + 1 + 1 < W4.heap.size := by have := hst4.size; omega
  have bN : Blk W4 (w.heap.size) (g0 (n)) (g1 (n)) (g2 (n)) (g3 (n)) := HbN.out.below hst4 (by omega)
  have bD : Blk W4 (w.heap.size + 1) (g0 (d)) (g1 (d)) (g2 (d)) (g3 (d)) := HbD.out.below hst4 (by omega)
  have bR : Blk2 W4 (w.heap.size + 1 + 1) (0) (0) := HbR.out.below hst4 (by omega)
  have bG : Blk W4 (w1.heap.size) (g0 (G)) (g1 (G)) (g2 (G)) (g3 (G)) := HbG.out.below hst4 (by omega)
  have bP : Blk W4 (w2.heap.size) (g0 (P)) (g1 (P)) (g2 (P)) (g3 (P)) := HbP.out.below hst4 (by omega)
  have bX : Blk W4 (w2.heap.size + 1) (g0 (n % G)) (g1 (n % G)) (g2 (n % G)) (g3 (n % G)) := HbX.out.below hst4 (by omega)
  have bQ : Blk W4 (w3.heap.size) (g0 (Q)) (g1 (Q)) (g2 (Q)) (g3 (Q)) := HbQ.out.below hst4 (by omega)
  have bY : Blk W4 (w3.heap.size + 1) (g0 (d % G)) (g1 (d % G)) (g2 (d % G)) (g3 (d % G)) := HbY.out.below hst4 (by omega)
  have bM : Blk W4 (w4.heap.size) (g0 (9223372036854775808)) (g1 (9223372036854775808)) (g2 (9223372036854775808)) (g3 (9223372036854775808)) := by rw [hW4]; constructor <;> simp (maxDischargeDepth := 12) [go_sem]
  have hl_bM : w4.heap.size < W4.heap.size := by rw [hW4]; first | (simp; done) | (simp; omega)
  have hl_bG : w1.heap.size < W4.heap.size := by have := hst4.size; omega
  have hl_bP : w2.heap.size < W4.heap.size := by have := hst4.size; omega
  have hl_bX : w2.heap.size + 1 < W4.heap.size := by have := hst4.size; omega
  have hl_bQ : w3.heap.size < W4.heap.size := by have := hst4.size; omega
  have hl_bY : w3.heap.size + 1 < W4.heap.size := by have := hst4.size; omega
  clear hW4 hst4 hb4 hB3 hs3 hz4 HbN HbD HbR HbG HbP HbX HbQ HbY
  have HbN : Hid (Blk W4 (w.heap.size) (g0 (n)) (g1 (n)) (g2 (n)) (g3 (n))) := bN
  have HbD : Hid (Blk W4 (w.heap.size + 1) (g0 (d)) (g1 (d)) (g2 (d)) (g3 (d))) := bD
  have HbR : Hid (Blk2 W4 (w.heap.size + 1 + 1) (0) (0)) := bR
  have HbG : Hid (Blk W4 (w1.heap.size) (g0 (G)) (g1 (G)) (g2 (G)) (g3 (G))) := bG
  have HbP : Hid (Blk W4 (w2.heap.size) (g0 (P)) (g1 (P)) (g2 (P)) (g3 (P))) := bP
  have HbX : Hid (Blk W4 (w2.heap.size + 1) (g0 (n % G)) (g1 (n % G)) (g2 (n % G)) (g3 (n % G))) := bX
  have HbQ : Hid (Blk W4 (w3.heap.size) (g0 (Q)) (g1 (Q)) (g2 (Q)) (g3 (Q))) := bQ
  have HbY : Hid (Blk W4 (w3.heap.size + 1) (g0 (d % G)) (g1 (d % G)) (g2 (d % G)) (g3 (d % G))) := bY
  have HbM : Hid (Blk W4 (w4.heap.size) (g0 (9223372036854775808)) (g1 (9223372036854775808)) (g2 (9223372036854775808)) (g3 (9223372036854775808))) := bM
  clear bN bD bR bG bP bX bQ bY bM
  obtain ⟨bM_0, bM_1, bM_2, bM_3, -, -, -, -⟩ := HbM.out
  obtain ⟨bP_0, bP_1, bP_2, bP_3, -, -, -, -⟩ := HbP.out
  go_wp2_with fail
  refine (rcompare_any P 9223372036854775808 _ hP (by omega) (by omega) (by omega)).mono ?_
  rintro e w5 ⟨rfl, hb5⟩
  have hz5 := hb5.size
  clear bM_0 bM_1 bM_2 bM_3
  clear bP_0 bP_1 bP_2 bP_3
  rw [e1.out]
  go_upto_region 6 with fail
  refine wp_world ?_
  intro W5 hW5
  have hst5 : Below W4.heap.size W4 W5 := by rw [hW5]; exact (by repeat' (first | (with_reducible exact Below.refl _ _) | (with_reducible assumption) | (with_reducible refine bdrewN _ ?_) | (with_reducible refine Below.alloc ?_ ?_ _) | (with_reducible refine Below.setCell ?_ ?_ _) | (with_reducible refine Below.drew ?_) | go_size | (simp; omega)))
  have hB5 : Below w.heap.size w W5 := hB4.trans (hst5.mono hB4.size)
  have hs5 : w.heap.size + 1 + 1 < W5.heap.size := by have := hst5.size; omega
  have bN : Blk W5 (w.heap.size) (g0 (n)) (g1 (n)) (g2 (n)) (g3 (n)) := HbN.out.below hst5 (by omega)
  have bD : Blk W5 (w.heap.size + 1) (g0 (d)) (g1 (d)) (g2 (d)) (g3 (d)) := HbD.out.below hst5 (by omega)
  have bR : Blk2 W5 (w.heap.size + 1 + 1) (0) (0) := HbR.out.below hst5 (by omega)
  have bG : Blk W5 (w1.heap.size) (g0 (G)) (g1 (G)) (g2 (G)) (g3 (G)) := HbG.out.below hst5 (by omega)
  have bP : Blk W5 (w2.heap.size) (g0 (P)) (g1 (P)) (g2 (P)) (g3 (P)) := HbP.out.below hst5 (by omega)
  have bX : Blk W5 (w2.heap.size + 1) (g0 (n % G)) (g1 (n % G)) (g2 (n % G)) (g3 (n % G)) := HbX.out.below hst5 (by omega)
  have bQ : Blk W5 (w3.heap.size) (g0 (Q)) (g1 (Q)) (g2 (Q)) (g3 (Q)) := HbQ.out.below hst5 (by omega)
  have bY : Blk W5 (w3.heap.size + 1) (g0 (d % G)) (g1 (d % G)) (g2 (d % G)) (g3 (d % G)) := HbY.out.below hst5 (by omega)
  have bM : Blk W5 (w4.heap.size) (g0 (9223372036854775808)) (g1 (9223372036854775808)) (g2 (9223372036854775808)) (g3 (9223372036854775808)) := HbM.out.below hst5 (by omega)
  have hl_bG : w1.heap.size < W5.heap.size := by have := hst5.size; omega
  have hl_bP : w2.heap.size < W5.heap.size := by have := hst5.size; omega
  have hl_bX : w2.heap.size + 1 < W5.heap.size := by have := hst5.size; omega
  have hl_bQ : w3.heap.size < W5.heap.size := by have := hst5.size; omega
  have hl_bY : w3.heap.size + 1 < W5.heap.size := by have := hst5.size; omega
  have hl_bM : w4.heap.size < W5.heap.size := by have := hst5.size; omega
  clear hW5 hst5 hb5 hB4 hs4 hz5 HbN HbD HbR HbG HbP HbX HbQ HbY HbM
  have HbN : Hid (Blk W5 (w.heap.size) (g0 (n)) (g1 (n)) (g2 (n)) (g3 (n))) := bN
  have HbD : Hid (Blk W5 (w.heap.size + 1) (g0 (d)) (g1 (d)) (g2 (d)) (g3 (d))) := bD
  have HbR : Hid (Blk2 W5 (w.heap.size + 1 + 1) (0) (0)) := bR
  have HbG : Hid (Blk W5 (w1.heap.size) (g0 (G)) (g1 (G)) (g2 (G)) (g3 (G))) := bG
  have HbP : Hid (Blk W5 (w2.heap.size) (g0 (P)) (g1 (P)) (g2 (P)) (g3 (P))) := bP
  have HbX : Hid (Blk W5 (w2.heap.size + 1) (g0 (n % G)) (g1 (n % G)) (g2 (n % G)) (g3 (n % G))) := bX
  have HbQ : Hid (Blk W5 (w3.heap.size) (g0 (Q)) (g1 (Q)) (g2 (Q)) (g3 (Q))) := bQ
  have HbY : Hid (Blk W5 (w3.heap.size + 1) (g0 (d % G)) (g1 (d % G)) (g2 (d % G)) (g3 (d % G))) := bY
  have HbM : Hid (Blk W5 (w4.heap.size) (g0 (9223372036854775808)) (g1 (9223372036854775808)) (g2 (9223372036854775808)) (g3 (9223372036854775808))) := bM
  clear bN bD bR bG bP bX bQ bY bM
  obtain ⟨bM_0, bM_1, bM_2, bM_3, -, -, -, -⟩ := HbM.out
  obtain ⟨bQ_0, bQ_1, bQ_2, bQ_3, -, -, -, -⟩ := HbQ.out
  go_wp2_with fail
  refine (rcompare_any Q 9223372036854775808 _ (by omega) (by omega) (by omega) (by omega)).mono ?_
  rintro e w6 ⟨rfl, hb6⟩
  have hz6 := hb6.size
  clear bM_0 bM_1 bM_2 bM_3
  clear bQ_0 bQ_1 bQ_2 bQ_3
  rw [e2.out]
  go_upto_region 7 with fail
  refine wp_world ?_
  intro W6 hW6
  have hst6 : Below W5.heap.size W5 W6 := by rw [hW6]; exact (by repeat' (first | (with_reducible exact Below.refl _ _) | (with_reducible assumption) | (with_reducible refine bdrewN _ ?_) | (with_reducible refine Below.alloc ?_ ?_ _) | (with_reducible refine Below.setCell ?_ ?_ _) | (with_reducible refine Below.drew ?_) | go_size | (simp; omega)))
  have hB6 : Below w.heap.size w W6 := hB5.trans (hst6.mono hB5.size)
  have hs6 : w.heap.size + 1 + 1 < W6.heap.size := by have := hst6.size; omega
  have bN : Blk W6 (w.heap.size) (g0 (n)) (g1 (n)) (g2 (n)) (g3 (n)) := HbN.out.below hst6 (by omega)
  have bD : Blk W6 (w.heap.size + 1) (g0 (d)) (g1 (d)) (g2 (d)) (g3 (d)) := HbD.out.below hst6 (by omega)
  have bR : Blk2 W6 (w.heap.size + 1 + 1) (0) (0) := HbR.out.below hst6 (by omega)
  have bG : Blk W6 (w1.heap.size) (g0 (G)) (g1 (G)) (g2 (G)) (g3 (G)) := HbG.out.below hst6 (by omega)
  have bP : Blk W6 (w2.heap.size) (g0 (P)) (g1 (P)) (g2 (P)) (g3 (P)) := HbP.out.below hst6 (by omega)
  have bX : Blk W6 (w2.heap.size + 1) (g0 (n % G)) (g1 (n % G)) (g2 (n % G)) (g3 (n % G)) := HbX.out.below hst6 (by omega)
  have bQ : Blk W6 (w3.heap.size) (g0 (Q)) (g1 (Q)) (g2 (Q)) (g3 (Q)) := HbQ.out.below hst6 (by omega)
  have bY : Blk W6 (w3.heap.size + 1) (g0 (d % G)) (g1 (d % G)) (g2 (d % G)) (g3 (d % G)) := HbY.out.below hst6 (by omega)
  have bM : Blk W6 (w4.heap.size) (g0 (9223372036854775808)) (g1 (9223372036854775808)) (g2 (9223372036854775808)) (g3 (9223372036854775808)) := HbM.out.below hst6 (by omega)
  have hl_bG : w1.heap.size < W6.heap.size := by have := hst6.size; omega
  have hl_bP : w2.heap.size < W6.heap.size := by have := hst6.size; omega
  have hl_bX : w2.heap.size + 1 < W6.heap.size := by have := hst6.size; omega
  have hl_bQ : w3.heap.size < W6.heap.size := by have := hst6.size; omega
  have hl_bY : w3.heap.size + 1 < W6.heap.size := by have := hst6.size; omega
  have hl_bM : w4.heap.size < W6.heap.size := by have := hst6.size; omega
  clear hW6 hst6 hb6 hB5 hs5 hz6 HbN HbD HbR HbG HbP HbX HbQ HbY HbM
  have bRR : Hid (Blk2 W6 (w.heap.size + 1 + 1) 0 0) := bR
  obtain ⟨bR0, bR1, bR2, bR3⟩ := bR
  obtain ⟨bP0, bP1, bP2, bP3, -, -, -, -⟩ := bP
  obtain ⟨bQ0, bQ1, bQ2, bQ3, -, -, -, -⟩ := bQ
  have zP0 := g0_bd P; have zP1 := g1_bd P; have zQ0 := g0_bd Q; have zQ1 := g1_bd Q
  clear bN bD bG bX bY bM
  rcases hcase with ⟨h2, rfl, rfl, rfl⟩ | ⟨h2, h1, rfl, rfl, rfl⟩ | ⟨h2, rfl, rfl, rfl, rfl, rfl⟩ | ⟨h2, rfl, rfl, hP3, hP2, hQ2, hN, hD, rfl⟩ | ⟨h2, h1, rfl, hP2, hQ2, hN, hD, rfl⟩ | ⟨h2, h1, rfl, hP3, hP2, hQ2, hN, hD, rfl⟩
  · skip
    go_wp2
    generalize hW9 : World.setCell _ _ _ = W9
    have b9 := bRR.out.two (0) (0)
    rw [hW9] at b9
    have hB9 : Below w.heap.size w W9 := by rw [← hW9]; exact (by repeat' (first | (with_reducible exact Below.refl _ _) | (with_reducible assumption) | (with_reducible refine bdrewN _ ?_) | (with_reducible refine Below.alloc ?_ ?_ _) | (with_reducible refine Below.setCell ?_ ?_ _) | (with_reducible refine Below.drew ?_) | go_size | (simp; omega)))
    clear hW9
    obtain ⟨x0, x1, -, -⟩ := b9
    refine bodyPost_ret (by simp [results, Tryz.results123, go_sem, x0, x1]; try rfl) rfl ?_
    exact ⟨rfl, hB9⟩
  · have h2f : (0 ≤ c2) = False := by simp; omega
    go_wp2
    generalize hW9 : World.setCell _ _ _ = W9
    have b9 := bRR.out.two (0) (0)
    rw [hW9] at b9
    have hB9 : Below w.heap.size w W9 := by rw [← hW9]; exact (by repeat' (first | (with_reducible exact Below.refl _ _) | (with_reducible assumption) | (with_reducible refine bdrewN _ ?_) | (with_reducible refine Below.alloc ?_ ?_ _) | (with_reducible refine Below.setCell ?_ ?_ _) | (with_reducible refine Below.drew ?_) | go_size | (simp; omega)))
    clear hW9
    obtain ⟨x0, x1, -, -⟩ := b9
    refine bodyPost_ret (by simp [results, Tryz.results123, go_sem, x0, x1]; try rfl) rfl ?_
    exact ⟨rfl, hB9⟩
  · have h2f : (0 ≤ c2) = False := by simp; omega
    go_wp2
    generalize hW9 : World.setCell _ _ _ = W9
    have b9 := bRR.out.two (0) (0)
    rw [hW9] at b9
    have hB9 : Below w.heap.size w W9 := by rw [← hW9]; exact (by repeat' (first | (with_reducible exact Below.refl _ _) | (with_reducible assumption) | (with_reducible refine bdrewN _ ?_) | (with_reducible refine Below.alloc ?_ ?_ _) | (with_reducible refine Below.setCell ?_ ?_ _) | (with_reducible refine Below.drew ?_) | go_size | (simp; omega)))
    clear hW9
    obtain ⟨x0, x1, -, -⟩ := b9
    refine bodyPost_ret (by simp [results, Tryz.results123, go_sem, x0, x1]; try rfl) rfl ?_
    exact ⟨rfl, hB9⟩
  · have hN : Hid (N = _) := hN
    have hD : Hid (D = Q) := hD
    have h2f : (0 ≤ c2) = False := by simp; omega
    have xP := low64 P (by omega) (by omega)
    have xQ := low64 Q (by omega) (by omega)
    go_wp2
    generalize hW9 : World.setCell _ _ _ = W9
    have b9 := bRR.out.two (-(P - 1) - 1) (Q)
    rw [hW9] at b9
    have hB9 : Below w.heap.size w W9 := by rw [← hW9]; exact (by repeat' (first | (with_reducible exact Below.refl _ _) | (with_reducible assumption) | (with_reducible refine bdrewN _ ?_) | (with_reducible refine Below.alloc ?_ ?_ _) | (with_reducible refine Below.setCell ?_ ?_ _) | (with_reducible refine Below.drew ?_) | go_size | (simp; omega)))
    clear hW9
    obtain ⟨x0, x1, -, -⟩ := b9
    refine bodyPost_ret (by simp [results, Tryz.results123, go_sem, x0, x1]; try rfl) rfl ?_
    exact ⟨ret_frac (by rw [hN.out]; omega) (by rw [hD.out]) rfl, hB9⟩
  · have hN : Hid (N = _) := hN
    have hD : Hid (D = Q) := hD
    have h2f : (0 ≤ c2) = False := by simp; omega
    have h1f : (0 < c1) = False := by simp; omega
    have h1e : (c1 = 0) = False := by simp; omega
    have h1b : (c1 == 0) = false := by simp; omega
    have xP := low64 P (by omega) (by omega)
    have xQ := low64 Q (by omega) (by omega)
    go_wp2
    generalize hW9 : World.setCell _ _ _ = W9
    have b9 := bRR.out.two (P) (Q)
    rw [hW9] at b9
    have hB9 : Below w.heap.size w W9 := by rw [← hW9]; exact (by repeat' (first | (with_reducible exact Below.refl _ _) | (with_reducible assumption) | (with_reducible refine bdrewN _ ?_) | (with_reducible refine Below.alloc ?_ ?_ _) | (with_reducible refine Below.setCell ?_ ?_ _) | (with_reducible refine Below.drew ?_) | go_size | (simp; omega)))
    clear hW9
    obtain ⟨x0, x1, -, -⟩ := b9
    refine bodyPost_ret (by simp [results, Tryz.results123, go_sem, x0, x1]; try rfl) rfl ?_
    exact ⟨ret_frac (by rw [hN.out]) (by rw [hD.out]) rfl, hB9⟩
  · have hN : Hid (N = _) := hN
    have hD : Hid (D = Q) := hD
    have h2f : (0 ≤ c2) = False := by simp; omega
    have h1f : (0 < c1) = False := by simp; omega
    have h1e : (c1 = 0) = False := by simp; omega
    have h1b : (c1 == 0) = false := by simp; omega
    have xP := low64 P (by omega) (by omega)
    have xQ := low64 Q (by omega) (by omega)
    go_wp2
    generalize hW9 : World.setCell _ _ _ = W9
    have b9 := bRR.out.two (-(P - 1) - 1) (Q)
    rw [hW9] at b9
    have hB9 : Below w.heap.size w W9 := by rw [← hW9]; exact (by repeat' (first | (with_reducible exact Below.refl _ _) | (with_reducible assumption) | (with_reducible refine bdrewN _ ?_) | (with_reducible refine Below.alloc ?_ ?_ _) | (with_reducible refine Below.setCell ?_ ?_ _) | (with_reducible refine Below.drew ?_) | go_size | (simp; omega)))
    clear hW9
    obtain ⟨x0, x1, -, -⟩ := b9
    refine bodyPost_ret (by simp [results, Tryz.results123, go_sem, x0, x1]; try rfl) rfl ?_
    exact ⟨ret_frac (by rw [hN.out]; omega) (by rw [hD.out]) rfl, hB9⟩

theorem rmade_any (b : Bool) (n d : Int) (w : World) (hn : 0 ≤ n) (hn' : n ≤ 170141183460469231731687303715884105728) (hd : 0 < d) (hd' : d ≤ 170141183460469231731687303715884105728) (hbn : b = true → 0 < n) :
    Calls Tryz.prog 123 #[.bool b, .agg #[.int .u64 (g0 n), .int .u64 (g1 n), .int .u64 (g2 n), .int .u64 (g3 n)], .agg #[.int .u64 (g0 d), .int .u64 (g1 d), .int .u64 (g2 d), .int .u64 (g3 d)]] w fun e w' => e = .returned (.tuple #[.agg #[.int .i64 (outN (sg b (n / gc n d)) (d / gc n d)), .int .i64 (outD (sg b (n / gc n d)) (d / gc n d))], .int .i64 (outE (sg b (n / gc n d)) (d / gc n d))]) ∧ Below w.heap.size w w' := by
  obtain ⟨q1, q2, q3, q4, q5, q6, q7⟩ := gc_part n d hn hd
  refine rmade_raw b n d (gc n d) (n / gc n d) (d / gc n d) _ _ _ _ _ w hn hn' hd hd' rfl rfl rfl q1 q2 q3 q4 q5 q6 rfl rfl ?_
  generalize n / gc n d = P at *
  generalize d / gc n d = Q at *
  unfold cmpI
  cases b
  · by_cases a1 : P ≤ 9223372036854775807 ∧ Q ≤ 9223372036854775807
    · obtain ⟨e1, e2, e3⟩ := out_yes (p := P) (q := Q) (by omega) a1.1 a1.2
      have e1' : outN (sg false P) Q = P := e1
      have e2' : outD (sg false P) Q = Q := e2
      have e3' : outE (sg false P) Q = 0 := e3
      rw [e1', e2', e3', if_pos (show P < 9223372036854775808 by omega), if_pos (show Q < 9223372036854775808 by omega)]
      simp; omega
    · obtain ⟨e1, e2, e3⟩ := out_no (p := P) (q := Q) (by omega)
      have e1' : outN (sg false P) Q = 0 := e1
      have e2' : outD (sg false P) Q = 0 := e2
      have e3' : outE (sg false P) Q = 10 := e3
      rw [e1', e2', e3']
      split <;> split <;> (try split) <;> (try split) <;> simp <;> omega
  · have hp := q7 (hbn rfl)
    by_cases a1 : P ≤ 9223372036854775808 ∧ Q ≤ 9223372036854775807
    · obtain ⟨e1, e2, e3⟩ := out_yes (p := -P) (q := Q) (by omega) (by omega) a1.2
      have e1' : outN (sg true P) Q = -P := e1
      have e2' : outD (sg true P) Q = Q := e2
      have e3' : outE (sg true P) Q = 0 := e3
      rw [e1', e2', e3', if_pos (show Q < 9223372036854775808 by omega)]
      split <;> (try split) <;> simp <;> omega
    · obtain ⟨e1, e2, e3⟩ := out_no (p := -P) (q := Q) (by omega)
      have e1' : outN (sg true P) Q = 0 := e1
      have e2' : outD (sg true P) Q = 0 := e2
      have e3' : outE (sg true P) Q = 10 := e3
      rw [e1', e2', e3']
      split <;> split <;> (try split) <;> (try split) <;> simp <;> omega

end Go.Proofs.YticmebamclacaaaGreatDoor

namespace Go.Proofs.YticmebamclacaaaGreatDoor
open Go.RowKit

set_option maxHeartbeats 400000 in
theorem rof_ex (n : Int) (w : World) (h1 : 0 ≤ n) (h2 : n ≤ 18446744073709551615) :
    Calls Tryz.prog 121 #[.int .u64 n] w fun e w' => e = .returned (.agg #[.int .u64 (g0 n), .int .u64 (g1 n), .int .u64 0, .int .u64 0]) ∧ ∃ c1 c2 : Array Value, w' = (w.alloc (.cells c1 198)).alloc (.cells c2 198) := by
  go_enter Tryz.func121, Tryz.ntmps121
  go_wp2
  go_returns
  exact ⟨ret_big (by unfold g0; rfl) (by unfold g1; omega) rfl rfl, _, _, rfl⟩


end Go.Proofs.YticmebamclacaaaGreatDoor

namespace Go.Proofs.YticmebamclacaaaGreatDoor
open Go.RowKit

/-- What made tells, as the least form of a number by its sign and size. -/
theorem rmade_r (b : Bool) (n d : Int) (w : World) (hn : 0 ≤ n) (hn' : n ≤ 170141183460469231731687303715884105728) (hd : 0 < d) (hd' : d ≤ 170141183460469231731687303715884105728) (hbn : b = true → 0 < n) :
    Calls Tryz.prog 123 #[.bool b, .agg #[.int .u64 (g0 n), .int .u64 (g1 n), .int .u64 (g2 n), .int .u64 (g3 n)], .agg #[.int .u64 (g0 d), .int .u64 (g1 d), .int .u64 (g2 d), .int .u64 (g3 d)]] w fun e w' => e = .returned (.tuple #[.agg #[.int .i64 (rN (sg b n) d), .int .i64 (rD (sg b n) d)], .int .i64 (rE (sg b n) d)]) ∧ Below w.heap.size w w' := by
  have h := rmade_any b n d w hn hn' hd hd' hbn
  have e1 := sg_div b n (gc n d) (gc_dvd_left n d hn)
  have e2 : sz (sg b n) = n := by rw [sz_sg, sz_of_nonneg hn]
  unfold rN rD rE
  rw [e2, ← e1]
  exact h

set_option maxHeartbeats 400000 in
theorem rOf_zero (n : Int) (w : World) :
    Calls Tryz.prog 106 #[.int .i64 n, .int .i64 0] w fun e w' => e = .returned (.tuple #[.agg #[.int .i64 0, .int .i64 0], .int .i64 11]) ∧ Below w.heap.size w w' := by
  go_enter Tryz.func106, Tryz.ntmps106
  go_wp2
  go_returns
  exact ⟨rfl, by go_grown⟩

theorem rof_exg (n : Int) (w : World) (h1 : 0 ≤ n) (h2 : n ≤ 18446744073709551615) :
    Calls Tryz.prog 121 #[.int .u64 n] w fun e w' => e = .returned (.agg #[.int .u64 (g0 n), .int .u64 (g1 n), .int .u64 (g2 n), .int .u64 (g3 n)]) ∧ ∃ c1 c2 : Array Value, w' = (w.alloc (.cells c1 198)).alloc (.cells c2 198) := by
  have e2 : g2 n = 0 := by unfold g2; omega
  have e3 : g3 n = 0 := by unfold g3; omega
  rw [e2, e3]; exact rof_ex n w h1 h2

set_option maxRecDepth 100000 in
set_option maxHeartbeats 1000000 in
theorem rOf_raw (b : Bool) (n d : Int) (w : World) (h1 : -9223372036854775808 ≤ n) (h2 : n ≤ 9223372036854775807) (k1 : -9223372036854775808 ≤ d) (k2 : d ≤ 9223372036854775807) (hd : (d == 0) = false) (z1 : 0 ≤ sz n) (z2 : sz n ≤ 9223372036854775808) (z3 : 0 < sz d) (z4 : sz d ≤ 9223372036854775808) (hbn : b = true → 0 < sz n)
    (hc : (n = 0 ∧ b = false) ∨ ((n != 0) = true ∧ b = (decide (n < 0) != decide (d < 0)))) :
    Calls Tryz.prog 106 #[.int .i64 n, .int .i64 d] w fun e w' => e = .returned (.tuple #[.agg #[.int .i64 (rN (sg b (sz n)) (sz d)), .int .i64 (rD (sg b (sz n)) (sz d))], .int .i64 (rE (sg b (sz n)) (sz d))]) ∧ Below w.heap.size w w' := by
  have HM : Hid (∀ W : World, Calls Tryz.prog 123 #[.bool b, .agg #[.int .u64 (g0 (sz n)), .int .u64 (g1 (sz n)), .int .u64 (g2 (sz n)), .int .u64 (g3 (sz n))], .agg #[.int .u64 (g0 (sz d)), .int .u64 (g1 (sz d)), .int .u64 (g2 (sz d)), .int .u64 (g3 (sz d))]] W fun e w' => e = .returned (.tuple #[.agg #[.int .i64 (rN (sg b (sz n)) (sz d)), .int .i64 (rD (sg b (sz n)) (sz d))], .int .i64 (rE (sg b (sz n)) (sz d))]) ∧ Below W.heap.size W w') :=
    fun W => rmade_r b (sz n) (sz d) W z1 (by omega) z3 (by omega) hbn
  clear hbn
  rcases hc with ⟨hn, hb⟩ | ⟨hn, hb⟩
  · subst hn; subst hb
    go_enter Tryz.func106, Tryz.ntmps106
    go_wp2_with (first
      | (go_at_call 122; refine (rsize_any _ _ (by omega) (by omega)).mono ?_; rintro e w' ⟨rfl, rfl⟩)
      | (go_at_call 121; refine (rof_exg _ _ (by omega) (by omega)).mono ?_; rintro e w' ⟨rfl, c1, c2, rfl⟩)
      | (go_at_call 123; refine (HM.out _).mono ?_; rintro e w3 ⟨rfl, hb⟩; obtain ⟨hc, hf, hz, hB⟩ := bf (w := w) (by go_grown) hb; have bR : Hid (Blk2 w3 (w.heap.size) 0 0) := Blk2.below (by constructor <;> simp (maxDischargeDepth := 12) [go_sem]) hb (by go_size)))
    generalize hW9 : World.setCell _ _ _ = W9
    have b9 := bR.out.two (rN (sg false (sz 0)) (sz d)) (rD (sg false (sz 0)) (sz d))
    rw [hW9] at b9
    have hB9 : Below w.heap.size w W9 := by rw [← hW9]; exact Below.setCell (Below.setCell hB (by simp) _) (by simp) _
    clear hW9 hc hf hz hB hb bR
    obtain ⟨x0, x1, -, -⟩ := b9
    refine bodyPost_ret (by simp [results, Tryz.results106, go_sem, x0, x1]; try rfl) rfl ?_
    exact ⟨rfl, hB9⟩
  · have hb' : b = !(decide (n < 0) == decide (d < 0)) := hb
    subst hb'
    clear hb
    go_enter Tryz.func106, Tryz.ntmps106
    go_wp2_with (first
      | (go_at_call 122; refine (rsize_any _ _ (by omega) (by omega)).mono ?_; rintro e w' ⟨rfl, rfl⟩)
      | (go_at_call 121; refine (rof_exg _ _ (by omega) (by omega)).mono ?_; rintro e w' ⟨rfl, c1, c2, rfl⟩)
      | (go_at_call 123; refine (HM.out _).mono ?_; rintro e w3 ⟨rfl, hb⟩; obtain ⟨hc, hf, hz, hB⟩ := bf (w := w) (by go_grown) hb; have bR : Hid (Blk2 w3 (w.heap.size) 0 0) := Blk2.below (by constructor <;> simp (maxDischargeDepth := 12) [go_sem]) hb (by go_size)))
    generalize hW9 : World.setCell _ _ _ = W9
    have b9 := bR.out.two (rN (sg (!(decide (n < 0) == decide (d < 0))) (sz n)) (sz d)) (rD (sg (!(decide (n < 0) == decide (d < 0))) (sz n)) (sz d))
    rw [hW9] at b9
    have hB9 : Below w.heap.size w W9 := by rw [← hW9]; exact Below.setCell (Below.setCell hB (by simp) _) (by simp) _
    clear hW9 hc hf hz hB hb bR
    obtain ⟨x0, x1, -, -⟩ := b9
    refine bodyPost_ret (by simp [results, Tryz.results106, go_sem, x0, x1]; try rfl) rfl ?_
    exact ⟨rfl, hB9⟩

theorem rOf_all (n d : Int) (w : World) (h1 : -9223372036854775808 ≤ n) (h2 : n ≤ 9223372036854775807) (k1 : -9223372036854775808 ≤ d) (k2 : d ≤ 9223372036854775807) :
    Calls Tryz.prog 106 #[.int .i64 n, .int .i64 d] w fun e w' => e = .returned (.tuple #[.agg #[.int .i64 (oN n d), .int .i64 (oD n d)], .int .i64 (oE n d)]) ∧ Below w.heap.size w w' := by
  unfold oN oD oE
  by_cases h : d = 0
  · subst h; simpa using rOf_zero n w
  · rw [if_neg h, if_neg h, if_neg h]
    have z3 : 0 < sz d := by unfold sz; omega
    by_cases hn : n = 0
    · have e : ofP n d = sg false (sz n) := by subst hn; unfold ofP sg sz; simp
      rw [e]
      exact rOf_raw false n d w h1 h2 k1 k2 (by simpa using h) (sz_nonneg n) (sz_le h1 h2) z3 (sz_le k1 k2) (by simp) (Or.inl ⟨hn, rfl⟩)
    · have e : ofP n d = sg (decide (n < 0) != decide (d < 0)) (sz n) := (sg_sz n (decide (d < 0))).symm
      rw [e]
      exact rOf_raw _ n d w h1 h2 k1 k2 (by simpa using h) (sz_nonneg n) (sz_le h1 h2) z3 (sz_le k1 k2) (fun _ => by unfold sz; omega) (Or.inr ⟨by simpa using hn, rfl⟩)

theorem may_neg {n d : Int} (h : d ≤ 0) : mayB n d = false := by
  cases e : mayB n d
  · rfl
  · have := (may_of e).1; omega

set_option maxHeartbeats 400000 in
theorem rmay_any (n d : Int) (w : World) (h1 : -9223372036854775808 ≤ n) (h2 : n ≤ 9223372036854775807) (g1 : -9223372036854775808 ≤ d) (g2 : d ≤ 9223372036854775807) :
    Calls Tryz.prog 78 #[.agg #[.int .i64 n, .int .i64 d]] w fun e w' => e = .returned (.bool (mayB n d)) ∧ Below w.heap.size w w' := by
  by_cases hd : d ≤ 0
  · rw [may_neg hd]
    go_enter Tryz.func78, Tryz.ntmps78
    go_wp2
    go_ret
    exact ⟨rfl, by go_grown⟩
  · have hd2 : (d ≤ 0) = False := by simp; omega
    by_cases a1 : oE n d = 0
    · go_enter Tryz.func78, Tryz.ntmps78
      go_wp2_with (first
        | (go_at_call 106; refine (rOf_all _ _ _ h1 h2 g1 g2).mono ?_; rintro e w1 ⟨rfl, hb⟩; obtain ⟨hc, hf, hz, hB⟩ := bf (w := w) (by go_grown) hb; simp only [World.size_alloc] at hz; have z0 : w.heap.size < w1.heap.size := by omega))
      all_goals
        go_ret
        exact ⟨by simp [mayB, *], by go_grown⟩
    · have a2 : (oE n d == 0) = false := by simpa using a1
      go_enter Tryz.func78, Tryz.ntmps78
      go_wp2_with (first
        | (go_at_call 106; refine (rOf_all _ _ _ h1 h2 g1 g2).mono ?_; rintro e w1 ⟨rfl, hb⟩; obtain ⟨hc, hf, hz, hB⟩ := bf (w := w) (by go_grown) hb; simp only [World.size_alloc] at hz; have z0 : w.heap.size < w1.heap.size := by omega))
      all_goals
        go_ret
        exact ⟨by simp [mayB, a2], by go_grown⟩

end Go.Proofs.YticmebamclacaaaGreatDoor

namespace Go.Proofs.YticmebamclacaaaGreatDoor
open Go.RowKit Go.Shelf

theorem size_empty {s : ByteArray} (h : s.toList.isEmpty = true) : s.size = 0 := by
  rw [ByteArray.toList_eq] at h
  cases hl : s.data.toList with
  | nil =>
    have h3 : s.data.toList.length = 0 := by rw [hl]; rfl
    exact h3
  | cons a b => rw [hl] at h; exact Bool.noConfusion h

set_option maxRecDepth 100000 in
set_option maxHeartbeats 400000 in
theorem rfrac_any (k n d : Int) (s : ByteArray) (w : World) :
    Calls Tryz.prog 79 #[.agg #[.int .i64 k, .int .i64 n, .int .i64 d, .string s]] w fun e w' => e = .returned (.agg #[.int .i64 n, .int .i64 d]) ∧ Below w.heap.size w w' := by
  go_enter Tryz.func79, Tryz.ntmps79
  go_wp2
  go_returns
  exact ⟨rfl, by go_grown⟩

set_option maxRecDepth 100000 in
set_option maxHeartbeats 1000000 in
theorem rcheck_1 (n d : Int) (s : ByteArray) (w : World) :
    Calls Tryz.prog 57 #[.agg #[.int .i64 1, .int .i64 n, .int .i64 d, .string s]] w fun e w' => e = .returned (.int .i64 (chk 1 n d s)) ∧ Below w.heap.size w w' := by
  cases hd : d == 0
  · have e0 : chk 1 n d s = 20 := by simp [chk, pureB, hd]
    have d1 : ¬ d = 0 := by simpa using hd
    have d2 : (d != 0) = true := by simpa using d1
    rw [e0]
    go_enter Tryz.func57, Tryz.ntmps57
    go_wp2
    go_ret
    exact ⟨rfl, by go_grown⟩
  · have hd' : d = 0 := by simpa using hd
    subst hd'
    cases hs : s.toList.isEmpty
    · have e0 : chk 1 n 0 s = 20 := by simp [chk, pureB, hs]
      rw [e0]
      go_enter Tryz.func57, Tryz.ntmps57
      go_wp2
      go_ret
      exact ⟨rfl, by go_grown⟩
    · have e0 : chk 1 n 0 s = 0 := by have := size_empty hs; simp [chk, pureB, hs, this]
      rw [e0]
      go_enter Tryz.func57, Tryz.ntmps57
      go_wp2
      go_ret
      exact ⟨rfl, by go_grown⟩

set_option maxRecDepth 100000 in
set_option maxHeartbeats 1000000 in
theorem rcheck_2 (n d : Int) (s : ByteArray) (w : World) (h1 : -9223372036854775808 ≤ n) (h2 : n ≤ 9223372036854775807) (g1 : -9223372036854775808 ≤ d) (g2 : d ≤ 9223372036854775807) :
    Calls Tryz.prog 57 #[.agg #[.int .i64 2, .int .i64 n, .int .i64 d, .string s]] w fun e w' => e = .returned (.int .i64 (chk 2 n d s)) ∧ Below w.heap.size w w' := by
  cases hs : s.toList.isEmpty
  · have e0 : chk 2 n d s = 20 := by simp [chk, pureB, hs]
    rw [e0]
    go_enter Tryz.func57, Tryz.ntmps57
    go_wp2_with fail
    refine (rfrac_any 2 n d s _).mono ?_
    rintro e w1 ⟨rfl, hb1⟩
    go_wp2_with fail
    refine (rmay_any n d _ h1 h2 g1 g2).mono ?_
    rintro e w2 ⟨rfl, hb2⟩
    obtain ⟨hc, hf, hz, hB⟩ := bf (w := w) (by go_grown) (hb1.trans (hb2.mono hb1.size))
    simp only [World.size_alloc] at hz
    have z0 : w.heap.size < w2.heap.size := by omega
    go_wp2
    go_ret
    exact ⟨rfl, hB⟩
  · have z := size_empty hs
    cases hm : mayB n d
    · have e0 : chk 2 n d s = 20 := by simp [chk, pureB, hm]
      rw [e0]
      go_enter Tryz.func57, Tryz.ntmps57
      go_wp2_with fail
      refine (rfrac_any 2 n d s _).mono ?_
      rintro e w1 ⟨rfl, hb1⟩
      go_wp2_with fail
      refine (rmay_any n d _ h1 h2 g1 g2).mono ?_
      rintro e w2 ⟨rfl, hb2⟩
      obtain ⟨hc, hf, hz, hB⟩ := bf (w := w) (by go_grown) (hb1.trans (hb2.mono hb1.size))
      simp only [World.size_alloc] at hz
      have z0 : w.heap.size < w2.heap.size := by omega
      rw [hm]
      go_wp2
      go_ret
      exact ⟨rfl, hB⟩
    · have e0 : chk 2 n d s = 0 := by simp [chk, pureB, hm, hs, z]
      rw [e0]
      go_enter Tryz.func57, Tryz.ntmps57
      go_wp2_with fail
      refine (rfrac_any 2 n d s _).mono ?_
      rintro e w1 ⟨rfl, hb1⟩
      go_wp2_with fail
      refine (rmay_any n d _ h1 h2 g1 g2).mono ?_
      rintro e w2 ⟨rfl, hb2⟩
      obtain ⟨hc, hf, hz, hB⟩ := bf (w := w) (by go_grown) (hb1.trans (hb2.mono hb1.size))
      simp only [World.size_alloc] at hz
      have z0 : w.heap.size < w2.heap.size := by omega
      rw [hm]
      go_wp2
      go_ret
      exact ⟨rfl, hB⟩

set_option maxRecDepth 100000 in
set_option maxHeartbeats 1000000 in
theorem rcheck_3 (n d : Int) (s : ByteArray) (w : World) :
    Calls Tryz.prog 57 #[.agg #[.int .i64 3, .int .i64 n, .int .i64 d, .string s]] w fun e w' => e = .returned (.int .i64 (chk 3 n d s)) ∧ Below w.heap.size w w' := by
  cases hn : n == 0
  · have e0 : chk 3 n d s = 20 := by simp [chk, pureB, hn]
    have d1 : ¬ n = 0 := by simpa using hn
    have d2 : (n != 0) = true := by simpa using d1
    rw [e0]
    go_enter Tryz.func57, Tryz.ntmps57
    go_wp2
    go_ret
    exact ⟨rfl, by go_grown⟩
  · have hn' : n = 0 := by simpa using hn
    subst hn'
    cases hd : d == 0
    · have e0 : chk 3 0 d s = 20 := by simp [chk, pureB, hd]
      have d1 : ¬ d = 0 := by simpa using hd
      have d2 : (d != 0) = true := by simpa using d1
      rw [e0]
      go_enter Tryz.func57, Tryz.ntmps57
      go_wp2
      go_ret
      exact ⟨rfl, by go_grown⟩
    · have hd' : d = 0 := by simpa using hd
      subst hd'
      by_cases hl : 64 < s.size
      · have e0 : chk 3 0 0 s = 2 := by simp [chk, pureB, hl]
        rw [e0]
        have hl' : (64 : Int) < s.size := by omega
        go_enter Tryz.func57, Tryz.ntmps57
        go_wp2
        go_ret
        exact ⟨rfl, by go_grown⟩
      · have e0 : chk 3 0 0 s = 0 := by simp [chk, pureB, hl]
        rw [e0]
        have hl' : ((64 : Int) < s.size) = False := by simp; omega
        go_enter Tryz.func57, Tryz.ntmps57
        go_wp2
        go_ret
        exact ⟨rfl, by go_grown⟩

set_option maxRecDepth 100000 in
set_option maxHeartbeats 1000000 in
theorem rcheck_any (k n d : Int) (s : ByteArray) (w : World) (h1 : -9223372036854775808 ≤ n) (h2 : n ≤ 9223372036854775807) (g1 : -9223372036854775808 ≤ d) (g2 : d ≤ 9223372036854775807) :
    Calls Tryz.prog 57 #[.agg #[.int .i64 k, .int .i64 n, .int .i64 d, .string s]] w fun e w' => e = .returned (.int .i64 (chk k n d s)) ∧ Below w.heap.size w w' := by
  by_cases k1 : k = 1
  · subst k1; exact rcheck_1 n d s w
  · by_cases k2 : k = 2
    · subst k2; exact rcheck_2 n d s w h1 h2 g1 g2
    · by_cases k3 : k = 3
      · subst k3; exact rcheck_3 n d s w
      · have e0 : chk k n d s = 20 := by simp [chk, pureB, k1, k2, k3]
        rw [e0]
        have k1' : (k == 1) = false := by simpa using k1
        have k2' : (k == 2) = false := by simpa using k2
        have k3' : (k == 3) = false := by simpa using k3
        go_enter Tryz.func57, Tryz.ntmps57
        go_wp2
        go_ret
        exact ⟨rfl, by go_grown⟩

end Go.Proofs.YticmebamclacaaaGreatDoor

namespace Go.Proofs.YticmebamclacaaaGreatDoor
open Go.RowKit Go.Shelf

/-- Are two values the same? -/
def sameB (k n d : Int) (s : ByteArray) (k' n' d' : Int) (s' : ByteArray) : Bool := k == k' && (n == n' && (d == d' && s.toList == s'.toList))

end Go.Proofs.YticmebamclacaaaGreatDoor

namespace Go.Proofs.YticmebamclacaaaGreatDoor
open Go.RowKit Go.Shelf

end Go.Proofs.YticmebamclacaaaGreatDoor

namespace Go.Proofs.YticmebamclacaaaGreatDoor
open Go.RowKit Go.Shelf
set_option linter.unusedVariables false

/-- How two values stand to one another. -/
def vcmp (k n d : Int) (s : ByteArray) (k' n' d' : Int) (s' : ByteArray) : Int :=
  if chk k n d s = 0 then (if chk k' n' d' s' = 0 then (if k = k' then (if k = 1 then Lib.compareInt n n' else if k = 2 then cmpV n d n' d' else Lib.compareBytes s.data.toList s'.data.toList) else Lib.compareInt k k') else 0) else 0
theorem chk_kind {k n d : Int} {s : ByteArray} (h : chk k n d s = 0) : k = 1 ∨ k = 2 ∨ k = 3 := by
  by_cases k1 : k = 1
  · exact Or.inl k1
  · by_cases k2 : k = 2
    · exact Or.inr (Or.inl k2)
    · by_cases k3 : k = 3
      · exact Or.inr (Or.inr k3)
      · exfalso
        have e0 : chk k n d s = 20 := by simp [chk, pureB, k1, k2, k3]
        omega

end Go.Proofs.YticmebamclacaaaGreatDoor

namespace Go.Proofs.YticmebamclacaaaGreatDoor
open Go.RowKit Go.Shelf
set_option linter.unusedVariables false

theorem ocmp_yes {a b c d : Int} (h1 : mayB a b = true) (h2 : mayB c d = true) : cmpV a b c d = if a * d < c * b then -1 else if c * b < a * d then 1 else 0 := by simp [cmpV, both, h1, h2]
theorem ocmp_cases {a b c d : Int} (h1 : mayB a b = true) (h2 : mayB c d = true) : (cmpV a b c d = -1 ∧ a * d < c * b) ∨ (cmpV a b c d = 0 ∧ a * d = c * b) ∨ (cmpV a b c d = 1 ∧ c * b < a * d) := by
  rw [ocmp_yes h1 h2]
  by_cases h3 : a * d < c * b
  · exact Or.inl ⟨if_pos h3, h3⟩
  · rw [if_neg h3]
    by_cases h4 : c * b < a * d
    · exact Or.inr (Or.inr ⟨if_pos h4, h4⟩)
    · exact Or.inr (Or.inl ⟨if_neg h4, by omega⟩)

theorem oon_law {a b c d u v : Int} (h1 : mayB a b = true) (h2 : mayB c d = true) (h3 : mayB u v = true) (hab : cmpV a b c d ≤ 0) (hbc : cmpV c d u v ≤ 0) :
    cmpV a b u v ≤ 0 ∧ ((cmpV a b c d = 0 ∧ cmpV c d u v = 0) ↔ cmpV a b u v = 0) := by
  obtain ⟨pb, _⟩ := may_of h1
  obtain ⟨pd, _⟩ := may_of h2
  obtain ⟨pv, _⟩ := may_of h3
  have k1 : a * d ≤ c * b := by rcases ocmp_cases h1 h2 with ⟨e, h⟩ | ⟨e, h⟩ | ⟨e, h⟩ <;> omega
  have k2 : c * v ≤ u * d := by rcases ocmp_cases h2 h3 with ⟨e, h⟩ | ⟨e, h⟩ | ⟨e, h⟩ <;> omega
  have l1 := Int.mul_le_mul_of_nonneg_right k1 (Int.le_of_lt pv)
  have l2 := Int.mul_le_mul_of_nonneg_right k2 (Int.le_of_lt pb)
  have e1 : c * b * v = c * v * b := by grind
  have e2 : a * d * v = a * v * d := by grind
  have e3 : u * d * b = u * b * d := by grind
  have k3 : a * v * d ≤ u * b * d := by omega
  have k4 : a * v ≤ u * b := Int.le_of_mul_le_mul_right k3 pd
  refine ⟨?_, ?_, ?_⟩
  · rcases ocmp_cases h1 h3 with ⟨e, h⟩ | ⟨e, h⟩ | ⟨e, h⟩ <;> omega
  · rintro ⟨z1, z2⟩
    have m1 : a * d = c * b := by rcases ocmp_cases h1 h2 with ⟨e, h⟩ | ⟨e, h⟩ | ⟨e, h⟩ <;> omega
    have m2 : c * v = u * d := by rcases ocmp_cases h2 h3 with ⟨e, h⟩ | ⟨e, h⟩ | ⟨e, h⟩ <;> omega
    have m3 : a * v * d = u * b * d := by grind
    have m4 : a * v = u * b := Int.eq_of_mul_eq_mul_right (by omega) m3
    rcases ocmp_cases h1 h3 with ⟨e, h⟩ | ⟨e, h⟩ | ⟨e, h⟩ <;> omega
  · intro z
    have m : a * v = u * b := by rcases ocmp_cases h1 h3 with ⟨e, h⟩ | ⟨e, h⟩ | ⟨e, h⟩ <;> omega
    have m3 : a * v * d = u * b * d := by rw [m]
    have n1 : a * d * v = c * b * v := by omega
    have n2 : c * v * b = u * d * b := by omega
    have n3 : a * d = c * b := Int.eq_of_mul_eq_mul_right (by omega) n1
    have n4 : c * v = u * d := Int.eq_of_mul_eq_mul_right (by omega) n2
    constructor
    · rcases ocmp_cases h1 h2 with ⟨e, h⟩ | ⟨e, h⟩ | ⟨e, h⟩ <;> omega
    · rcases ocmp_cases h2 h3 with ⟨e, h⟩ | ⟨e, h⟩ | ⟨e, h⟩ <;> omega

/-- Two fractions in their least form that are worth the same are the same. -/
theorem ozero_law {a b c d : Int} (h1 : mayB a b = true) (h2 : mayB c d = true) : cmpV a b c d = 0 ↔ a = c ∧ b = d := by
  obtain ⟨pb, cb⟩ := may_of h1
  obtain ⟨pd, cd⟩ := may_of h2
  constructor
  · intro h
    have m : a * d = c * b := by rcases ocmp_cases h1 h2 with ⟨e, h⟩ | ⟨e, h⟩ | ⟨e, h⟩ <;> omega
    have mb : a.natAbs * d.toNat = c.natAbs * b.toNat := by
      have := congrArg Int.natAbs m
      rw [Int.natAbs_mul, Int.natAbs_mul] at this
      rwa [show d.natAbs = d.toNat by omega, show b.natAbs = b.toNat by omega] at this
    have d1 : b.toNat ∣ d.toNat := cb.symm.dvd_of_dvd_mul_left ⟨c.natAbs, by rw [mb, Nat.mul_comm]⟩
    have d2 : d.toNat ∣ b.toNat := cd.symm.dvd_of_dvd_mul_left ⟨a.natAbs, by rw [← mb, Nat.mul_comm]⟩
    have e : b.toNat = d.toNat := Nat.dvd_antisymm d1 d2
    have e' : b = d := by omega
    subst e'
    exact ⟨Int.eq_of_mul_eq_mul_right (by omega) m, rfl⟩
  · rintro ⟨rfl, rfl⟩
    rcases ocmp_cases h1 h2 with ⟨e, h⟩ | ⟨e, h⟩ | ⟨e, h⟩ <;> omega

theorem cb_range : ∀ (a b : List UInt8), -1 ≤ Lib.compareBytes a b ∧ Lib.compareBytes a b ≤ 1
  | [], [] => by simp [Lib.compareBytes]
  | [], _ :: _ => by simp [Lib.compareBytes]
  | _ :: _, [] => by simp [Lib.compareBytes]
  | x :: a, y :: b => by
    have ih := cb_range a b
    unfold Lib.compareBytes
    split
    · omega
    · split <;> omega
theorem cb_zero : ∀ (a b : List UInt8), Lib.compareBytes a b = 0 ↔ a = b
  | [], [] => by simp [Lib.compareBytes]
  | [], _ :: _ => by simp [Lib.compareBytes]
  | _ :: _, [] => by simp [Lib.compareBytes]
  | x :: a, y :: b => by
    have ih := cb_zero a b
    unfold Lib.compareBytes
    by_cases h : x < y
    · have h' : x ≠ y := UInt8.ne_of_lt h
      simp [h, h']
    · by_cases h2 : y < x
      · have h' : x ≠ y := (UInt8.ne_of_lt h2).symm
        simp [h, h2, h']
      · have e : x = y := UInt8.le_antisymm (UInt8.not_lt.1 h2) (UInt8.not_lt.1 h)
        simp [e, ih]
theorem cb_on : ∀ (a b c : List UInt8), Lib.compareBytes a b ≤ 0 → Lib.compareBytes b c ≤ 0 → Lib.compareBytes a c ≤ 0 ∧ ((Lib.compareBytes a b = 0 ∧ Lib.compareBytes b c = 0) ↔ Lib.compareBytes a c = 0)
  | [], [], [] => by simp [Lib.compareBytes]
  | [], [], _ :: _ => by simp [Lib.compareBytes]
  | [], _ :: _, [] => by simp [Lib.compareBytes]
  | _ :: _, [], _ => by simp [Lib.compareBytes]
  | _ :: _, _ :: _, [] => by simp [Lib.compareBytes]
  | [], y :: b, z :: c => by simp [Lib.compareBytes]
  | x :: a, y :: b, z :: c => by
    have ih := cb_on a b c
    unfold Lib.compareBytes
    rcases Nat.lt_trichotomy x.toNat y.toNat with h | h | h
    · have h1 : x < y := UInt8.lt_iff_toNat_lt.2 h
      rcases Nat.lt_trichotomy y.toNat z.toNat with g | g | g
      · have g1 : y < z := UInt8.lt_iff_toNat_lt.2 g
        have k1 : x < z := UInt8.lt_iff_toNat_lt.2 (by omega)
        simp [h1, g1, k1]
      · have g1 : y = z := UInt8.toNat_inj.1 g
        subst g1
        simp [h1]
      · have g1 : z < y := UInt8.lt_iff_toNat_lt.2 g
        have g2 : ¬ y < z := UInt8.lt_asymm g1
        simp [g1, g2]
    · have h1 : x = y := UInt8.toNat_inj.1 h
      subst h1
      have hi : ¬ x < x := UInt8.lt_irrefl x
      rcases Nat.lt_trichotomy x.toNat z.toNat with g | g | g
      · have g1 : x < z := UInt8.lt_iff_toNat_lt.2 g
        simp [hi, g1]
      · have g1 : x = z := UInt8.toNat_inj.1 g
        subst g1
        simp only [hi, if_false]
        exact ih
      · have g1 : z < x := UInt8.lt_iff_toNat_lt.2 g
        have g2 : ¬ x < z := UInt8.lt_asymm g1
        simp [g1, g2]
    · have h1 : y < x := UInt8.lt_iff_toNat_lt.2 h
      have h2 : ¬ x < y := UInt8.lt_asymm h1
      simp [h1, h2]

theorem toList_data (s : ByteArray) : s.toList = s.data.toList := by simp [ByteArray.toList_eq]

theorem chk1_of {n d : Int} {s : ByteArray} (h : chk 1 n d s = 0) : d = 0 ∧ s.toList = [] := by
  simp only [chk, pureB, if_true] at h
  split at h
  · omega
  · rename_i g
    simp at g
    exact g
theorem chk2_of {n d : Int} {s : ByteArray} (h : chk 2 n d s = 0) : mayB n d = true ∧ s.toList = [] := by
  simp only [chk, pureB, Int.reduceEq, if_false, if_true] at h
  split at h
  · omega
  · rename_i g
    simp at g
    exact g
theorem chk3_of {n d : Int} {s : ByteArray} (h : chk 3 n d s = 0) : n = 0 ∧ d = 0 := by
  simp only [chk, pureB, Int.reduceEq, if_false, if_true] at h
  split at h
  · omega
  · rename_i g
    simp at g
    exact g

/-- A value, as four plain things. -/
structure Val where
  k : Int
  n : Int
  d : Int
  s : ByteArray
/-- May a value be at all: its numbers fit 64 bits. -/
structure Val.Fits (x : Val) : Prop where
  n1 : -9223372036854775808 ≤ x.n
  n2 : x.n ≤ 9223372036854775807
  d1 : -9223372036854775808 ≤ x.d
  d2 : x.d ≤ 9223372036854775807
def Val.may (x : Val) : Int := chk x.k x.n x.d x.s
def Val.cmp (x y : Val) : Int := vcmp x.k x.n x.d x.s y.k y.n y.d y.s
def Val.same (x y : Val) : Bool := sameB x.k x.n x.d x.s y.k y.n y.d y.s

theorem Val.cmp_ok {x y : Val} (h : x.may = 0) (g : y.may = 0) : x.cmp y = if x.k = y.k then (if x.k = 1 then Lib.compareInt x.n y.n else if x.k = 2 then cmpV x.n x.d y.n y.d else Lib.compareBytes x.s.toList y.s.toList) else Lib.compareInt x.k y.k := by
  unfold Val.may at h g
  unfold Val.cmp vcmp
  rw [if_pos h, if_pos g, toList_data, toList_data]

theorem ci_cases (a b : Int) : (Lib.compareInt a b = -1 ∧ a < b) ∨ (Lib.compareInt a b = 0 ∧ a = b) ∨ (Lib.compareInt a b = 1 ∧ b < a) := by
  unfold Lib.compareInt
  rcases Int.lt_trichotomy a b with h | h | h
  · exact Or.inl ⟨if_pos h, h⟩
  · subst h; simp
  · exact Or.inr (Or.inr ⟨by rw [if_neg (by omega), if_pos h], h⟩)

theorem Val.cases {x : Val} (h : x.may = 0) : (x.k = 1 ∧ x.d = 0 ∧ x.s.toList = []) ∨ (x.k = 2 ∧ mayB x.n x.d = true ∧ x.s.toList = []) ∨ (x.k = 3 ∧ x.n = 0 ∧ x.d = 0) := by
  unfold Val.may at h
  rcases chk_kind h with e | e | e
  · rw [e] at h; exact Or.inl ⟨e, chk1_of h⟩
  · rw [e] at h; exact Or.inr (Or.inl ⟨e, chk2_of h⟩)
  · rw [e] at h; exact Or.inr (Or.inr ⟨e, chk3_of h⟩)

theorem Val.range (x y : Val) : -1 ≤ x.cmp y ∧ x.cmp y ≤ 1 := by
  unfold Val.cmp vcmp
  split
  · split
    · split
      · split
        · rcases ci_cases x.n y.n with h | h | h <;> omega
        · split
          · unfold cmpV
            split
            · split
              · omega
              · split <;> omega
            · omega
          · exact cb_range _ _
      · rcases ci_cases x.k y.k with h | h | h <;> omega
    · omega
  · omega

theorem Val.zero {x y : Val} (h : x.may = 0) (g : y.may = 0) : x.cmp y = 0 ↔ x.same y = true := by
  rw [Val.cmp_ok h g]
  unfold Val.same sameB
  by_cases e : x.k = y.k
  · rw [if_pos e]
    rcases Val.cases h with ⟨a, p, q⟩ | ⟨a, p, q⟩ | ⟨a, p, q⟩ <;> rcases Val.cases g with ⟨b, p', q'⟩ | ⟨b, p', q'⟩ | ⟨b, p', q'⟩ <;> try omega
    · rw [if_pos a, a, b, p, p', q, q']
      rcases ci_cases x.n y.n with h | h | h <;> simp <;> omega
    · rw [a, b, q, q']
      simp only [Int.reduceEq, if_false, if_true]
      rw [ozero_law p p']
      simp
    · rw [a, b, p, p', q, q']
      simp only [Int.reduceEq, if_false]
      rw [cb_zero]
      simp
  · rw [if_neg e]
    rcases ci_cases x.k y.k with h | h | h
    · simp [e, h.1]
    · exact absurd h.2 e
    · simp [e, h.1]

theorem Val.on {x y z : Val} (h : x.may = 0) (g : y.may = 0) (f : z.may = 0) (a : x.cmp y ≤ 0) (b : y.cmp z ≤ 0) : x.cmp z ≤ 0 ∧ ((x.cmp y = 0 ∧ y.cmp z = 0) ↔ x.cmp z = 0) := by
  rw [Val.cmp_ok h g] at a ⊢
  rw [Val.cmp_ok g f] at b ⊢
  rw [Val.cmp_ok h f]
  by_cases e1 : x.k = y.k
  · rw [if_pos e1] at a ⊢
    by_cases e2 : y.k = z.k
    · rw [if_pos e2] at b ⊢
      rw [if_pos (e1.trans e2)]
      rcases Val.cases h with ⟨k1, p, q⟩ | ⟨k1, p, q⟩ | ⟨k1, p, q⟩ <;> rcases Val.cases g with ⟨k2, p', q'⟩ | ⟨k2, p', q'⟩ | ⟨k2, p', q'⟩ <;> try omega
      · rw [if_pos k1] at a ⊢
        rw [if_pos k2] at b ⊢
        rw [if_pos k1]
        rcases ci_cases x.n y.n with h | h | h <;> rcases ci_cases y.n z.n with h' | h' | h' <;> rcases ci_cases x.n z.n with h'' | h'' | h'' <;> omega
      · rcases Val.cases f with ⟨k3, p'', q''⟩ | ⟨k3, p'', q''⟩ | ⟨k3, p'', q''⟩
        · omega
        · rw [k1] at a ⊢
          rw [k2] at b ⊢
          exact oon_law p p' p'' a b
        · omega
      · rw [k1] at a ⊢
        rw [k2] at b ⊢
        exact cb_on _ _ _ a b
    · rw [if_neg e2] at b ⊢
      rw [if_neg (by omega)]
      rw [e1]
      rcases ci_cases y.k z.k with h | h | h <;> omega
  · rw [if_neg e1] at a ⊢
    by_cases e2 : y.k = z.k
    · rw [if_neg (by omega), ← e2]
      rcases ci_cases x.k y.k with h | h | h <;> omega
    · rw [if_neg e2] at b ⊢
      rcases ci_cases x.k y.k with h | h | h <;> rcases ci_cases y.k z.k with h' | h' | h' <;> try omega
      rw [if_neg (by omega)]
      rcases ci_cases x.k z.k with h'' | h'' | h'' <;> omega

end Go.Proofs.YticmebamclacaaaGreatDoor

namespace Go.Proofs.YticmebamclacaaaGreatDoor
open Go.RowKit Go.Shelf
set_option linter.unusedVariables false

/-- A row's values lie at a place. -/
def Lies (w : World) (b off : Nat) (xs : List Val) : Prop :=
  ∀ i (h : i < xs.length), w.cell? ⟨b, off + i * 4, none⟩ = some (.int .i64 xs[i].k) ∧ w.cell? ⟨b, off + i * 4 + 1, none⟩ = some (.int .i64 xs[i].n) ∧ w.cell? ⟨b, off + i * 4 + 2, none⟩ = some (.int .i64 xs[i].d) ∧ w.cell? ⟨b, off + i * 4 + 3, none⟩ = some (.string xs[i].s)
theorem Lies.below {w w' : World} {b off : Nat} {xs : List Val} (h : Lies w b off xs) {B : Nat} (hb : Below B w w') (hlt : b < B) : Lies w' b off xs := fun i hi => by
  obtain ⟨c0, c1, c2, c3⟩ := h i hi
  exact ⟨(hb.cell (p := ⟨b, _, none⟩) hlt).trans c0, (hb.cell (p := ⟨b, _, none⟩) hlt).trans c1, (hb.cell (p := ⟨b, _, none⟩) hlt).trans c2, (hb.cell (p := ⟨b, _, none⟩) hlt).trans c3⟩

end Go.Proofs.YticmebamclacaaaGreatDoor

namespace Go.Proofs.YticmebamclacaaaGreatDoor
open Go.RowKit

end Go.Proofs.YticmebamclacaaaGreatDoor

namespace Go.Proofs.YticmebamclacaaaGreatDoor
open Go.RowKit Go.Shelf
set_option linter.unusedVariables false

end Go.Proofs.YticmebamclacaaaGreatDoor

namespace Go.Proofs.YticmebamclacaaaGreatDoor
open Go.RowKit Go.Shelf
set_option linter.unusedVariables false

end Go.Proofs.YticmebamclacaaaGreatDoor

namespace Go.Proofs.YticmebamclacaaaGreatDoor
open Go.RowKit Go.Shelf
set_option linter.unusedVariables false

theorem inV : (Tryz.prog.info? 50).map (fun i => (i.zero, i.size, i.bytes)) = some (some (.agg #[.int .i64 0, .int .i64 0, .int .i64 0, .string ⟨#[]⟩]), 4, 40) := by kernel_rfl

/-- The cells of a value, and of a row. -/
def vcells (x : Val) : List Value := [.int .i64 x.k, .int .i64 x.n, .int .i64 x.d, .string x.s]
def flat (xs : List Val) : List Value := xs.flatMap vcells
theorem flat_get : ∀ (xs : List Val) (i j : Nat) (h : i < xs.length), j < 4 → (flat xs)[i * 4 + j]? = (vcells xs[i])[j]?
  | [], i, j, h, _ => by simp at h
  | x :: xs, 0, j, h, hj => by
    simp only [flat, List.flatMap_cons, Nat.zero_mul, Nat.zero_add, List.getElem_cons_zero]
    rw [List.getElem?_append_left (by simpa [vcells] using hj)]
  | x :: xs, i + 1, j, h, hj => by
    have ih := flat_get xs i j (by simpa using h) hj
    simp only [flat, List.flatMap_cons, List.getElem_cons_succ] at ih ⊢
    rw [List.getElem?_append_right (by simp [vcells]; omega), ← ih]
    congr 1
    simp [vcells]
    omega
theorem cells_lie {w : World} {b off : Nat} {xs : List Val} (h : ∀ j, j < xs.length * 4 → w.cell? ⟨b, off + j, none⟩ = (flat xs)[j]?) : Lies w b off xs := fun i hi => by
  refine ⟨?_, ?_, ?_, ?_⟩
  · have := h (i * 4 + 0) (by omega); rw [flat_get xs i 0 hi (by omega)] at this; simpa [vcells] using this
  · have := h (i * 4 + 1) (by omega); rw [flat_get xs i 1 hi (by omega)] at this; simpa [vcells, Nat.add_assoc] using this
  · have := h (i * 4 + 2) (by omega); rw [flat_get xs i 2 hi (by omega)] at this; simpa [vcells, Nat.add_assoc] using this
  · have := h (i * 4 + 3) (by omega); rw [flat_get xs i 3 hi (by omega)] at this; simpa [vcells, Nat.add_assoc] using this

/-- A slice value that holds a row, nil or not. -/
def RowAt (w : World) (v : Value) (xs : List Val) : Prop := ∃ p c, v = .slice p xs.length c ∧ (xs = [] ∨ ∃ b off, p = some ⟨b, off, none⟩ ∧ b < w.heap.size ∧ Lies w b off xs)
theorem RowAt.below {w w' : World} {v : Value} {xs : List Val} (h : RowAt w v xs) (hb : Below w.heap.size w w') : RowAt w' v xs := by
  obtain ⟨p, c, e, h⟩ := h
  refine ⟨p, c, e, ?_⟩
  rcases h with h | ⟨b, off, h1, h2, h3⟩
  · exact Or.inl h
  · exact Or.inr ⟨b, off, h1, Nat.lt_of_lt_of_le h2 hb.size, h3.below hb h2⟩

end Go.Proofs.YticmebamclacaaaGreatDoor

namespace Go.Proofs.YticmebamclacaaaGreatDoor
open Go.RowKit LX Go.Shelf
set_option linter.unusedVariables false

/-- An event. -/
structure Evt where
  name : ByteArray
  args : List Val
/-- Why values may not be. -/
def valsE : List Val → Int
  | [] => 0
  | v :: l => if v.may = 0 then valsE l else v.may
/-- Are values of these kinds? -/
def kfit : List Int → List Val → Bool
  | [], [] => true
  | k :: ks, v :: vs => v.k == k && kfit ks vs
  | _, _ => false
theorem kfit_len {ks : List Int} {vs : List Val} (h : ¬ ks.length = vs.length) : kfit ks vs = false := by
  induction ks generalizing vs with
  | nil => cases vs with
    | nil => exact absurd rfl h
    | cons v vs => rfl
  | cons k ks ih => cases vs with
    | nil => rfl
    | cons v vs =>
      unfold kfit
      rw [ih (fun e => h (by simp [e])), Bool.and_false]
/-- The kinds of the declaration at a place. -/
def kindsAt (L : List Dec) (i : Int) : List Int := (L.getD i.toNat ⟨⟨#[]⟩, []⟩).kinds
/-- Why an event does not fit. -/
def evtE (L : List Dec) (e : Evt) : Int := if valsE e.args = 0 then (if 0 ≤ findI e.name L 0 ∧ kfit (kindsAt L (findI e.name L 0)) e.args = true then 0 else 90) else valsE e.args
def evtsE (L : List Dec) : List Evt → Int
  | [] => 0
  | e :: l => if evtE L e = 0 then evtsE L l else evtE L e
def sizeE (t : Int) (n : Nat) : Int := if t < 0 ∨ 1099511627776 < t then 5 else if 64 < n then 3 else 0
/-- Why a point does not fit a signature. -/
def pointE (L : List Dec) (t : Int) (es : List Evt) : Int := if sigE L = 0 then (if sizeE t es.length = 0 then evtsE L es else sizeE t es.length) else sigE L

theorem findI_bound (x : ByteArray) (L : List Dec) (k : Nat) (h : 0 ≤ findI x L k) : (k : Int) ≤ findI x L k ∧ findI x L k < k + L.length := by
  induction L generalizing k with
  | nil => simp [findI] at h
  | cons d l ih =>
    rw [findI_cons] at h ⊢
    by_cases hd : d.name = x
    · rw [if_pos hd]; simp; omega
    · rw [if_neg hd] at h ⊢
      have := ih (k + 1) h
      simp only [List.length_cons]
      omega

theorem RowAt.formX {w : World} {v : Value} {xs : List Val} (h : RowAt w v xs) : ∃ p c, v = .slice p xs.length c ∧ ∀ i (hi : i < xs.length), ∃ b off, p = some ⟨b, off, none⟩ ∧ b < w.heap.size ∧ w.cell? ⟨b, off + i * 4, none⟩ = some (.int .i64 xs[i].k) ∧ w.cell? ⟨b, off + i * 4 + 1, none⟩ = some (.int .i64 xs[i].n) ∧ w.cell? ⟨b, off + i * 4 + 2, none⟩ = some (.int .i64 xs[i].d) ∧ w.cell? ⟨b, off + i * 4 + 3, none⟩ = some (.string xs[i].s) := by
  obtain ⟨p, c, e, h | ⟨b, off, h1, h2, h3⟩⟩ := h
  · exact ⟨p, c, e, fun i hi => by subst h; simp at hi⟩
  · exact ⟨p, c, e, fun i hi => ⟨b, off, h1, h2, h3 i hi⟩⟩

/-- Events lie in a slice. -/
def EvsAt (w : World) (v : Value) (es : List Evt) : Prop := ∃ p c, v = .slice p es.length c ∧ (es = [] ∨ ∃ b off, p = some ⟨b, off, none⟩ ∧ b < w.heap.size ∧ ∀ i (h : i < es.length), ∃ u, w.cell? ⟨b, off + i * 2, none⟩ = some (.string es[i].name) ∧ w.cell? ⟨b, off + i * 2 + 1, none⟩ = some u ∧ RowAt w u es[i].args)
theorem EvsAt.below {w w' : World} {v : Value} {es : List Evt} (h : EvsAt w v es) (hb : Below w.heap.size w w') : EvsAt w' v es := by
  obtain ⟨p, c, e, h | ⟨b, off, h1, h2, h3⟩⟩ := h
  · exact ⟨p, c, e, Or.inl h⟩
  · refine ⟨p, c, e, Or.inr ⟨b, off, h1, Nat.lt_of_lt_of_le h2 hb.size, fun i hi => ?_⟩⟩
    obtain ⟨u, a1, a2, a3⟩ := h3 i hi
    exact ⟨u, (hb.cell (p := ⟨b, _, none⟩) h2).trans a1, (hb.cell (p := ⟨b, _, none⟩) h2).trans a2, a3.below hb⟩
theorem EvsAt.form {w : World} {v : Value} {es : List Evt} (h : EvsAt w v es) : ∃ p c, v = .slice p es.length c ∧ ∀ i (hi : i < es.length), ∃ b off u, p = some ⟨b, off, none⟩ ∧ b < w.heap.size ∧ w.cell? ⟨b, off + i * 2, none⟩ = some (.string es[i].name) ∧ w.cell? ⟨b, off + i * 2 + 1, none⟩ = some u ∧ RowAt w u es[i].args := by
  obtain ⟨p, c, e, h | ⟨b, off, h1, h2, h3⟩⟩ := h
  · exact ⟨p, c, e, fun i hi => by subst h; simp at hi⟩
  · refine ⟨p, c, e, fun i hi => ?_⟩
    obtain ⟨u, a1, a2, a3⟩ := h3 i hi
    exact ⟨b, off, u, h1, h2, a1, a2, a3⟩

set_option maxRecDepth 100000 in
theorem ofkind_any (K k n d : Int) (s : ByteArray) (w : World) :
    Calls Tryz.prog 72 #[.int .i64 K, .agg #[.int .i64 k, .int .i64 n, .int .i64 d, .string s]] w fun e w' => e = .returned (.bool (k == K)) ∧ Below w.heap.size w w' := by
  go_enter Tryz.func72, Tryz.ntmps72
  go_wp2
  go_ret
  exact ⟨rfl, by go_grown⟩

set_option maxRecDepth 100000 in
set_option maxHeartbeats 2000000 in
theorem eqk_any (A B : Value) (ks : List Int) (vs : List Val) (w : World) (hA : KAt w A ks) (hB : RowAt w B vs) (lx : ks.length ≤ 9223372036854775807) (ly : vs.length ≤ 9223372036854775807) :
    Calls Tryz.prog 71 #[A, B, .func (.func 72) #[] #[]] w fun e w' => e = .returned (.bool (kfit ks vs)) ∧ Below w.heap.size w w' := by
  have eg : ∀ args w, (callFunc 72 args).run Tryz.prog w = .ok (.enter 72 args) w := enters_of Tryz.func72 (by kernel_rfl) rfl
  obtain ⟨p, c, rfl, HX0⟩ := hA.form
  obtain ⟨p', c', rfl, HY0⟩ := hB.formX
  by_cases hl : ks.length = vs.length
  · have HX : Hid (∀ i (hi : i < ks.length), ∃ b off, p = some ⟨b, off, none⟩ ∧ b < w.heap.size ∧ w.cell? ⟨b, off + i, none⟩ = some (.int .i64 ks[i])) := HX0
    have HY : Hid (∀ i (hi : i < vs.length), ∃ b off, p' = some ⟨b, off, none⟩ ∧ b < w.heap.size ∧ w.cell? ⟨b, off + i * 4, none⟩ = some (.int .i64 vs[i].k) ∧ w.cell? ⟨b, off + i * 4 + 1, none⟩ = some (.int .i64 vs[i].n) ∧ w.cell? ⟨b, off + i * 4 + 2, none⟩ = some (.int .i64 vs[i].d) ∧ w.cell? ⟨b, off + i * 4 + 3, none⟩ = some (.string vs[i].s)) := HY0
    obtain ⟨n, en⟩ : ∃ n : Nat, Hid (ks.length = n) := ⟨_, rfl⟩
    have em : Hid (vs.length = n) := hl.symm.trans en.out
    rw [en.out] at lx ⊢
    rw [em.out]
    clear hA hB hl ly HX0 HY0
    go_enter Tryz.func71, Tryz.ntmps71
    go_wp2
    go_loopw [17] (fun i wr => ∃ k : Nat, k ≤ n ∧ i = .int .i64 k ∧ Hid (kfit ks vs = kfit (ks.drop k) (vs.drop k)) ∧ Below w.heap.size w wr) (fun i _ => n - (intOf i).toNat)
    case atStart => exact ⟨0, Nat.zero_le _, rfl, (show kfit ks vs = kfit (ks.drop 0) (vs.drop 0) by simp), Below.refl _ _⟩
    case round =>
      obtain ⟨k, hk, rfl, hr, hB⟩ := hrel
      by_cases hlt : k < n
      · have kx : k < ks.length := by have := en.out; omega
        have ky : k < vs.length := by have := em.out; omega
        obtain ⟨b, off, rfl, hb, r0⟩ := HX.out k kx
        obtain ⟨b', off', rfl, hb', s0, s1, s2, s3⟩ := HY.out k ky
        have a0 := (hB.cell (p := ⟨b, off + k, none⟩) hb).trans r0
        have b0 := (hB.cell (p := ⟨b', off' + k * 4, none⟩) hb').trans s0
        have b1 := (hB.cell (p := ⟨b', off' + k * 4 + 1, none⟩) hb').trans s1
        have b2 := (hB.cell (p := ⟨b', off' + k * 4 + 2, none⟩) hb').trans s2
        have b3 := (hB.cell (p := ⟨b', off' + k * 4 + 3, none⟩) hb').trans s3
        have hbr : b < wr.heap.size := Nat.lt_of_lt_of_le hb hB.size
        have hbr' : b' < wr.heap.size := Nat.lt_of_lt_of_le hb' hB.size
        have hr2 : Hid (kfit ks vs = (vs[k].k == ks[k] && kfit (ks.drop (k + 1)) (vs.drop (k + 1)))) := by
          have h := hr.out
          rw [List.drop_eq_getElem_cons kx, List.drop_eq_getElem_cons ky] at h
          exact h
        clear r0 s0 s1 s2 s3 hr
        generalize ks[k] = K at a0 hr2
        generalize vs[k] = Y at b0 b1 b2 b3 hr2
        obtain ⟨C, eC⟩ : ∃ C : Bool, Hid ((Y.k == K) = C) := ⟨_, rfl⟩
        rw [eC.out] at hr2
        have ct : Hid (∀ W : World, Calls Tryz.prog 72 #[.int .i64 K, .agg #[.int .i64 Y.k, .int .i64 Y.n, .int .i64 Y.d, .string Y.s]] W fun e w' => e = .returned (.bool C) ∧ Below W.heap.size W w') := fun W => by
          have h := ofkind_any K Y.k Y.n Y.d Y.s W
          rw [eC.out] at h
          exact h
        clear eC
        go_wp2_with fail
        refine (ct.out _).mono ?_
        rintro e w1 ⟨rfl, hw1⟩
        obtain ⟨hw2, hn2⟩ := bgX (n := wr.heap.size) (W0 := wr) (by go_grown) (by go_size) hw1
        have hB2 : Below w.heap.size w w1 := hB.trans (hw2.mono hB.size)
        clear a0 b0 b1 b2 b3 ct hw1 hw2 hn2
        cases C with
        | true =>
          have hr3 : Hid (kfit ks vs = kfit (ks.drop (k + 1)) (vs.drop (k + 1))) := by have := hr2.out; rwa [Bool.true_and] at this
          go_wp2
          exact ⟨⟨k + 1, by omega, by go_num, hr3, hB2⟩, by simp [intOf]; omega⟩
        | false =>
          have hr3 : Hid (kfit ks vs = false) := by have := hr2.out; rwa [Bool.false_and] at this
          go_wp2
          go_ret
          exact ⟨retb hr3.out.symm, hB2⟩
      · have c2 : ¬ (k : Int) < n := by omega
        have hr3 : Hid (kfit ks vs = true) := by
          have h := hr.out
          rw [List.drop_eq_nil_of_le (by have := en.out; omega), List.drop_eq_nil_of_le (by have := em.out; omega)] at h
          exact h
        go_wp2
        go_ret
        exact ⟨retb hr3.out.symm, hB⟩
  · have HS : Hid (kfit ks vs = false) := kfit_len hl
    have h2 : ((ks.length : Int) == vs.length) = false := by simp; omega
    clear hA hB HX0 HY0
    generalize ks.length = n at *
    generalize vs.length = m at *
    go_enter Tryz.func71, Tryz.ntmps71
    go_wp2
    go_ret
    exact ⟨retb HS.out.symm, by go_grown⟩

set_option maxRecDepth 100000 in
theorem csize_any (t : Int) (p : Option Addr) (n c : Nat) (w : World) :
    Calls Tryz.prog 48 #[.agg #[.int .i64 t, .slice p n c]] w fun e w' => e = .returned (errV (sizeE t n)) ∧ Below w.heap.size w w' := by
  obtain ⟨E, eE⟩ : ∃ E : Int, Hid (sizeE t n = E) := ⟨_, rfl⟩
  rw [eE.out]
  by_cases h1 : t < 0
  · have hE : Hid (E = 5) := by have h := eE.out; unfold sizeE at h; rw [if_pos (Or.inl h1)] at h; exact h.symm
    go_enter Tryz.func48, Tryz.ntmps48
    go_wp2
    go_ret
    exact ⟨retE hE.out rfl, by go_grown⟩
  · by_cases h2 : 1099511627776 < t
    · have hE : Hid (E = 5) := by have h := eE.out; unfold sizeE at h; rw [if_pos (Or.inr h2)] at h; exact h.symm
      go_enter Tryz.func48, Tryz.ntmps48
      go_wp2
      go_ret
      exact ⟨retE hE.out rfl, by go_grown⟩
    · by_cases h3 : 64 < n
      · have hE : Hid (E = 3) := by have h := eE.out; unfold sizeE at h; rw [if_neg (by omega), if_pos h3] at h; exact h.symm
        have h3' : (64 : Int) < n := by omega
        go_enter Tryz.func48, Tryz.ntmps48
        go_wp2
        go_ret
        exact ⟨retE hE.out rfl, by go_grown⟩
      · have hE : Hid (E = 0) := by have h := eE.out; unfold sizeE at h; rw [if_neg (by omega), if_neg h3] at h; exact h.symm
        have h3' : ¬ (64 : Int) < n := by omega
        go_enter Tryz.func48, Tryz.ntmps48
        go_wp2
        go_ret
        exact ⟨retE hE.out rfl, by go_grown⟩

end Go.Proofs.YticmebamclacaaaGreatDoor


