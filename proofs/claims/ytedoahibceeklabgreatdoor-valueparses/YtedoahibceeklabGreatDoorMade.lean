/- The document's fraction of two numbers of 128 bits. -/
import Derived.Test.YtedoahibceeklabGreatDoorDivd3
namespace Go.Proofs.YtedoahibceeklabGreatDoor
open Go.RowKit

/-- A block of two numbers, which may be written. -/
structure Blk2 (W : World) (B : Nat) (v0 v1 : Int) : Prop where
  c0 : W.cell? ⟨B, 0, none⟩ = some (.int .i64 v0)
  c1 : W.cell? ⟨B, 1, none⟩ = some (.int .i64 v1)
  f0 : W.frozen? ⟨B, 0, none⟩ = false
  f1 : W.frozen? ⟨B, 1, none⟩ = false
theorem Blk2.below {W W' : World} {B n : Nat} {v0 v1 : Int} (h : Blk2 W B v0 v1) (hb : Below n W W') (hB : B < n) : Blk2 W' B v0 v1 :=
  ⟨(hb.cell (p := ⟨B, 0, none⟩) hB).trans h.c0, (hb.cell (p := ⟨B, 1, none⟩) hB).trans h.c1, (hb.frozen (p := ⟨B, 0, none⟩) hB).trans h.f0, (hb.frozen (p := ⟨B, 1, none⟩) hB).trans h.f1⟩
theorem Blk2.two {W : World} {B : Nat} {v0 v1 : Int} (h : Blk2 W B v0 v1) (x0 x1 : Int) : Blk2 ((W.setCell ⟨B, 0, none⟩ (.int .i64 x0)).setCell ⟨B, 1, none⟩ (.int .i64 x1)) B x0 x1 := by
  obtain ⟨c0, c1, f0, f1⟩ := h
  constructor <;> simp (maxDischargeDepth := 12) [go_sem, c0, c1, f0, f1]
theorem below_self {n : Nat} {W W' : World} (h : Below n W W') (k : n = W.heap.size) : Below W.heap.size W W' := k ▸ h

theorem gc_part (n d : Int) (hn : 0 ≤ n) (hd : 0 < d) : 0 < gc n d ∧ gc n d ≤ d ∧ 0 ≤ n / gc n d ∧ n / gc n d ≤ n ∧ 0 < d / gc n d ∧ d / gc n d ≤ d ∧ (0 < n → 0 < n / gc n d) := by
  have h1 := gc_pos n d hd
  have h2 := gc_le n d hd
  have pos : ∀ m, 0 < m → gc n d ∣ m → 0 < m / gc n d := by
    intro m hm hk
    obtain ⟨c, hc⟩ := hk
    have hc0 : 0 < c := by
      rcases Int.lt_or_le 0 c with h | h
      · exact h
      · have := Int.mul_le_mul_of_nonneg_left h (Int.le_of_lt h1); omega
    have e : m / gc n d = c := by
      have : m / gc n d = gc n d * c / gc n d := congrArg (· / gc n d) hc
      rw [this, Int.mul_ediv_cancel_left _ (by omega)]
    omega
  exact ⟨h1, h2, Int.ediv_nonneg hn (by omega), div_le_self n _ hn h1, pos d hd (gc_dvd_right n d (by omega)), div_le_self d _ (by omega) h1, fun h => pos n h (gc_dvd_left n d hn)⟩

theorem low64 (x : Int) (h0 : 0 ≤ x) (h1 : x ≤ 18446744073709551615) : g1 x * 4294967296 + g0 x = x := by unfold g0 g1; omega

set_option maxRecDepth 100000 in
set_option maxHeartbeats 8000000 in
theorem rmade_raw (b : Bool) (n d G P Q c1 c2 N D E : Int) (w : World) (hn : 0 ≤ n) (hn' : n ≤ 170141183460469231731687303715884105728) (hd : 0 < d) (hd' : d ≤ 170141183460469231731687303715884105728)
    (eG : Hid (gc n d = G)) (eP : Hid (n / G = P)) (eQ : Hid (d / G = Q)) (hG : 0 < G) (hG' : G ≤ d) (hP : 0 ≤ P) (hP' : P ≤ n) (hQ : 0 < Q) (hQ' : Q ≤ d) (e1 : Hid (cmpI P 9223372036854775808 = c1)) (e2 : Hid (cmpI Q 9223372036854775808 = c2))
    (hcase : (0 ≤ c2 ∧ N = 0 ∧ D = 0 ∧ E = 10) ∨ (c2 < 0 ∧ 0 < c1 ∧ N = 0 ∧ D = 0 ∧ E = 10) ∨ (c2 < 0 ∧ c1 = 0 ∧ b = false ∧ N = 0 ∧ D = 0 ∧ E = 10) ∨ (c2 < 0 ∧ c1 = 0 ∧ b = true ∧ 0 < P ∧ P ≤ 9223372036854775808 ∧ Q < 9223372036854775808 ∧ N = -P ∧ D = Q ∧ E = 0) ∨ (c2 < 0 ∧ c1 < 0 ∧ b = false ∧ P < 9223372036854775808 ∧ Q < 9223372036854775808 ∧ N = P ∧ D = Q ∧ E = 0) ∨ (c2 < 0 ∧ c1 < 0 ∧ b = true ∧ 0 < P ∧ P < 9223372036854775808 ∧ Q < 9223372036854775808 ∧ N = -P ∧ D = Q ∧ E = 0)) :
    Calls Tryz.prog 81 #[.bool b, .agg #[.int .u64 (g0 n), .int .u64 (g1 n), .int .u64 (g2 n), .int .u64 (g3 n)], .agg #[.int .u64 (g0 d), .int .u64 (g1 d), .int .u64 (g2 d), .int .u64 (g3 d)]] w fun e w' => e = .returned (.tuple #[.agg #[.int .i64 N, .int .i64 D], .int .i64 E]) ∧ Below w.heap.size w w' := by
  go_enter Tryz.func81, Tryz.ntmps81
  go_upto_region 1 with fail
  refine wp_world ?_
  intro W0 hW0
  have hs0 : w.heap.size + 1 + 1 < W0.heap.size := by rw [hW0]; simp
  have bN : Blk W0 (w.heap.size) (g0 (n)) (g1 (n)) (g2 (n)) (g3 (n)) := by rw [hW0]; constructor <;> simp (maxDischargeDepth := 12) [go_sem]
  have bD : Blk W0 (w.heap.size + 1) (g0 (d)) (g1 (d)) (g2 (d)) (g3 (d)) := by rw [hW0]; constructor <;> simp (maxDischargeDepth := 12) [go_sem]
  have bR : Blk2 W0 (w.heap.size + 1 + 1) 0 0 := by rw [hW0]; constructor <;> simp (maxDischargeDepth := 12) [go_sem]
  have hB0 : Below w.heap.size w W0 := by rw [hW0]; exact (by repeat' (first | (with_reducible exact Below.refl _ _) | (with_reducible assumption) | (with_reducible refine bdrewN _ ?_) | (with_reducible refine Below.alloc ?_ ?_ _) | (with_reducible refine Below.setCell ?_ ?_ _) | (with_reducible refine Below.drew ?_) | go_size | (simp; omega)))
  clear hW0
  have HbN : Hid (Blk W0 (w.heap.size) (g0 (n)) (g1 (n)) (g2 (n)) (g3 (n))) := bN
  have HbD : Hid (Blk W0 (w.heap.size + 1) (g0 (d)) (g1 (d)) (g2 (d)) (g3 (d))) := bD
  have HbR : Hid (Blk2 W0 (w.heap.size + 1 + 1) (0) (0)) := bR
  clear bN bD bR
  obtain ⟨bD_0, bD_1, bD_2, bD_3, -, -, -, -⟩ := HbD.out
  obtain ⟨bN_0, bN_1, bN_2, bN_3, -, -, -, -⟩ := HbN.out
  go_wp2_with fail
  refine (rcommon_any n d _ hn (by omega) (by omega) hd').mono ?_
  rintro e w1 ⟨rfl, hb1⟩
  have hz1 := hb1.size
  clear bD_0 bD_1 bD_2 bD_3
  clear bN_0 bN_1 bN_2 bN_3
  rw [eG.out]
  go_upto_region 2 with fail
  refine wp_world ?_
  intro W1 hW1
  have hst1 : Below W0.heap.size W0 W1 := by rw [hW1]; exact (by repeat' (first | (with_reducible exact Below.refl _ _) | (with_reducible assumption) | (with_reducible refine bdrewN _ ?_) | (with_reducible refine Below.alloc ?_ ?_ _) | (with_reducible refine Below.setCell ?_ ?_ _) | (with_reducible refine Below.drew ?_) | go_size | (simp; omega)))
  have hB1 : Below w.heap.size w W1 := hB0.trans (hst1.mono hB0.size)
  have hs1 : w.heap.size + 1 + 1 < W1.heap.size := by have := hst1.size; omega
  have bN : Blk W1 (w.heap.size) (g0 (n)) (g1 (n)) (g2 (n)) (g3 (n)) := HbN.out.below hst1 (by omega)
  have bD : Blk W1 (w.heap.size + 1) (g0 (d)) (g1 (d)) (g2 (d)) (g3 (d)) := HbD.out.below hst1 (by omega)
  have bR : Blk2 W1 (w.heap.size + 1 + 1) (0) (0) := HbR.out.below hst1 (by omega)
  have bG : Blk W1 (w1.heap.size) (g0 (G)) (g1 (G)) (g2 (G)) (g3 (G)) := by rw [hW1]; constructor <;> simp (maxDischargeDepth := 12) [go_sem]
  have hl_bG : w1.heap.size < W1.heap.size := by rw [hW1]; first | (simp; done) | (simp; omega)
  clear hW1 hst1 hb1 hB0 hs0 hz1 HbN HbD HbR
  have HbN : Hid (Blk W1 (w.heap.size) (g0 (n)) (g1 (n)) (g2 (n)) (g3 (n))) := bN
  have HbD : Hid (Blk W1 (w.heap.size + 1) (g0 (d)) (g1 (d)) (g2 (d)) (g3 (d))) := bD
  have HbR : Hid (Blk2 W1 (w.heap.size + 1 + 1) (0) (0)) := bR
  have HbG : Hid (Blk W1 (w1.heap.size) (g0 (G)) (g1 (G)) (g2 (G)) (g3 (G))) := bG
  clear bN bD bR bG
  obtain ⟨bG_0, bG_1, bG_2, bG_3, -, -, -, -⟩ := HbG.out
  obtain ⟨bN_0, bN_1, bN_2, bN_3, -, -, -, -⟩ := HbN.out
  go_wp2_with fail
  refine (rdiv_any n G _ hn (by omega) hG (by omega)).mono ?_
  rintro e w2 ⟨rfl, hb2⟩
  have hz2 := hb2.size
  clear bG_0 bG_1 bG_2 bG_3
  clear bN_0 bN_1 bN_2 bN_3
  rw [eP.out]
  go_upto_region 3 with fail
  refine wp_world ?_
  intro W2 hW2
  have hst2 : Below W1.heap.size W1 W2 := by rw [hW2]; exact (by repeat' (first | (with_reducible exact Below.refl _ _) | (with_reducible assumption) | (with_reducible refine bdrewN _ ?_) | (with_reducible refine Below.alloc ?_ ?_ _) | (with_reducible refine Below.setCell ?_ ?_ _) | (with_reducible refine Below.drew ?_) | go_size | (simp; omega)))
  have hB2 : Below w.heap.size w W2 := hB1.trans (hst2.mono hB1.size)
  have hs2 : w.heap.size + 1 + 1 < W2.heap.size := by have := hst2.size; omega
  have bN : Blk W2 (w.heap.size) (g0 (n)) (g1 (n)) (g2 (n)) (g3 (n)) := HbN.out.below hst2 (by omega)
  have bD : Blk W2 (w.heap.size + 1) (g0 (d)) (g1 (d)) (g2 (d)) (g3 (d)) := HbD.out.below hst2 (by omega)
  have bR : Blk2 W2 (w.heap.size + 1 + 1) (0) (0) := HbR.out.below hst2 (by omega)
  have bG : Blk W2 (w1.heap.size) (g0 (G)) (g1 (G)) (g2 (G)) (g3 (G)) := HbG.out.below hst2 (by omega)
  have bP : Blk W2 (w2.heap.size) (g0 (P)) (g1 (P)) (g2 (P)) (g3 (P)) := by rw [hW2]; constructor <;> simp (maxDischargeDepth := 12) [go_sem]
  have hl_bP : w2.heap.size < W2.heap.size := by rw [hW2]; first | (simp; done) | (simp; omega)
  have bX : Blk W2 (w2.heap.size + 1) (g0 (n % G)) (g1 (n % G)) (g2 (n % G)) (g3 (n % G)) := by rw [hW2]; constructor <;> simp (maxDischargeDepth := 12) [go_sem]
  have hl_bX : w2.heap.size + 1 < W2.heap.size := by rw [hW2]; first | (simp; done) | (simp; omega)
  have hl_bG : w1.heap.size < W2.heap.size := by have := hst2.size; omega
  clear hW2 hst2 hb2 hB1 hs1 hz2 HbN HbD HbR HbG
  have HbN : Hid (Blk W2 (w.heap.size) (g0 (n)) (g1 (n)) (g2 (n)) (g3 (n))) := bN
  have HbD : Hid (Blk W2 (w.heap.size + 1) (g0 (d)) (g1 (d)) (g2 (d)) (g3 (d))) := bD
  have HbR : Hid (Blk2 W2 (w.heap.size + 1 + 1) (0) (0)) := bR
  have HbG : Hid (Blk W2 (w1.heap.size) (g0 (G)) (g1 (G)) (g2 (G)) (g3 (G))) := bG
  have HbP : Hid (Blk W2 (w2.heap.size) (g0 (P)) (g1 (P)) (g2 (P)) (g3 (P))) := bP
  have HbX : Hid (Blk W2 (w2.heap.size + 1) (g0 (n % G)) (g1 (n % G)) (g2 (n % G)) (g3 (n % G))) := bX
  clear bN bD bR bG bP bX
  obtain ⟨bD_0, bD_1, bD_2, bD_3, -, -, -, -⟩ := HbD.out
  obtain ⟨bG_0, bG_1, bG_2, bG_3, -, -, -, -⟩ := HbG.out
  go_wp2_with fail
  refine (rdiv_any d G _ (by omega) (by omega) hG (by omega)).mono ?_
  rintro e w3 ⟨rfl, hb3⟩
  have hz3 := hb3.size
  clear bD_0 bD_1 bD_2 bD_3
  clear bG_0 bG_1 bG_2 bG_3
  rw [eQ.out]
  go_upto_region 4 with fail
  refine wp_world ?_
  intro W3 hW3
  have hst3 : Below W2.heap.size W2 W3 := by rw [hW3]; exact (by repeat' (first | (with_reducible exact Below.refl _ _) | (with_reducible assumption) | (with_reducible refine bdrewN _ ?_) | (with_reducible refine Below.alloc ?_ ?_ _) | (with_reducible refine Below.setCell ?_ ?_ _) | (with_reducible refine Below.drew ?_) | go_size | (simp; omega)))
  have hB3 : Below w.heap.size w W3 := hB2.trans (hst3.mono hB2.size)
  have hs3 : w.heap.size + 1 + 1 < W3.heap.size := by have := hst3.size; omega
  have bN : Blk W3 (w.heap.size) (g0 (n)) (g1 (n)) (g2 (n)) (g3 (n)) := HbN.out.below hst3 (by omega)
  have bD : Blk W3 (w.heap.size + 1) (g0 (d)) (g1 (d)) (g2 (d)) (g3 (d)) := HbD.out.below hst3 (by omega)
  have bR : Blk2 W3 (w.heap.size + 1 + 1) (0) (0) := HbR.out.below hst3 (by omega)
  have bG : Blk W3 (w1.heap.size) (g0 (G)) (g1 (G)) (g2 (G)) (g3 (G)) := HbG.out.below hst3 (by omega)
  have bP : Blk W3 (w2.heap.size) (g0 (P)) (g1 (P)) (g2 (P)) (g3 (P)) := HbP.out.below hst3 (by omega)
  have bX : Blk W3 (w2.heap.size + 1) (g0 (n % G)) (g1 (n % G)) (g2 (n % G)) (g3 (n % G)) := HbX.out.below hst3 (by omega)
  have bQ : Blk W3 (w3.heap.size) (g0 (Q)) (g1 (Q)) (g2 (Q)) (g3 (Q)) := by rw [hW3]; constructor <;> simp (maxDischargeDepth := 12) [go_sem]
  have hl_bQ : w3.heap.size < W3.heap.size := by rw [hW3]; first | (simp; done) | (simp; omega)
  have bY : Blk W3 (w3.heap.size + 1) (g0 (d % G)) (g1 (d % G)) (g2 (d % G)) (g3 (d % G)) := by rw [hW3]; constructor <;> simp (maxDischargeDepth := 12) [go_sem]
  have hl_bY : w3.heap.size + 1 < W3.heap.size := by rw [hW3]; first | (simp; done) | (simp; omega)
  have hl_bG : w1.heap.size < W3.heap.size := by have := hst3.size; omega
  have hl_bP : w2.heap.size < W3.heap.size := by have := hst3.size; omega
  have hl_bX : w2.heap.size + 1 < W3.heap.size := by have := hst3.size; omega
  clear hW3 hst3 hb3 hB2 hs2 hz3 HbN HbD HbR HbG HbP HbX
  have HbN : Hid (Blk W3 (w.heap.size) (g0 (n)) (g1 (n)) (g2 (n)) (g3 (n))) := bN
  have HbD : Hid (Blk W3 (w.heap.size + 1) (g0 (d)) (g1 (d)) (g2 (d)) (g3 (d))) := bD
  have HbR : Hid (Blk2 W3 (w.heap.size + 1 + 1) (0) (0)) := bR
  have HbG : Hid (Blk W3 (w1.heap.size) (g0 (G)) (g1 (G)) (g2 (G)) (g3 (G))) := bG
  have HbP : Hid (Blk W3 (w2.heap.size) (g0 (P)) (g1 (P)) (g2 (P)) (g3 (P))) := bP
  have HbX : Hid (Blk W3 (w2.heap.size + 1) (g0 (n % G)) (g1 (n % G)) (g2 (n % G)) (g3 (n % G))) := bX
  have HbQ : Hid (Blk W3 (w3.heap.size) (g0 (Q)) (g1 (Q)) (g2 (Q)) (g3 (Q))) := bQ
  have HbY : Hid (Blk W3 (w3.heap.size + 1) (g0 (d % G)) (g1 (d % G)) (g2 (d % G)) (g3 (d % G))) := bY
  clear bN bD bR bG bP bX bQ bY
  go_wp2_with fail
  refine (rof_any 9223372036854775808 _ (by omega) (by omega)).mono ?_
  rintro e w4 ⟨rfl, hb4⟩
  have hz4 := hb4.size
  go_upto_region 5 with fail
  refine wp_world ?_
  intro W4 hW4
  have hst4 : Below W3.heap.size W3 W4 := by rw [hW4]; exact (by repeat' (first | (with_reducible exact Below.refl _ _) | (with_reducible assumption) | (with_reducible refine bdrewN _ ?_) | (with_reducible refine Below.alloc ?_ ?_ _) | (with_reducible refine Below.setCell ?_ ?_ _) | (with_reducible refine Below.drew ?_) | go_size | (simp; omega)))
  have hB4 : Below w.heap.size w W4 := hB3.trans (hst4.mono hB3.size)
  have hs4 : w.heap.size + 1 + 1 < W4.heap.size := by have := hst4.size; omega
  have bN : Blk W4 (w.heap.size) (g0 (n)) (g1 (n)) (g2 (n)) (g3 (n)) := HbN.out.below hst4 (by omega)
  have bD : Blk W4 (w.heap.size + 1) (g0 (d)) (g1 (d)) (g2 (d)) (g3 (d)) := HbD.out.below hst4 (by omega)
  have bR : Blk2 W4 (w.heap.size + 1 + 1) (0) (0) := HbR.out.below hst4 (by omega)
  have bG : Blk W4 (w1.heap.size) (g0 (G)) (g1 (G)) (g2 (G)) (g3 (G)) := HbG.out.below hst4 (by omega)
  have bP : Blk W4 (w2.heap.size) (g0 (P)) (g1 (P)) (g2 (P)) (g3 (P)) := HbP.out.below hst4 (by omega)
  have bX : Blk W4 (w2.heap.size + 1) (g0 (n % G)) (g1 (n % G)) (g2 (n % G)) (g3 (n % G)) := HbX.out.below hst4 (by omega)
  have bQ : Blk W4 (w3.heap.size) (g0 (Q)) (g1 (Q)) (g2 (Q)) (g3 (Q)) := HbQ.out.below hst4 (by omega)
  have bY : Blk W4 (w3.heap.size + 1) (g0 (d % G)) (g1 (d % G)) (g2 (d % G)) (g3 (d % G)) := HbY.out.below hst4 (by omega)
  have bM : Blk W4 (w4.heap.size) (g0 (9223372036854775808)) (g1 (9223372036854775808)) (g2 (9223372036854775808)) (g3 (9223372036854775808)) := by rw [hW4]; constructor <;> simp (maxDischargeDepth := 12) [go_sem]
  have hl_bM : w4.heap.size < W4.heap.size := by rw [hW4]; first | (simp; done) | (simp; omega)
  have hl_bG : w1.heap.size < W4.heap.size := by have := hst4.size; omega
  have hl_bP : w2.heap.size < W4.heap.size := by have := hst4.size; omega
  have hl_bX : w2.heap.size + 1 < W4.heap.size := by have := hst4.size; omega
  have hl_bQ : w3.heap.size < W4.heap.size := by have := hst4.size; omega
  have hl_bY : w3.heap.size + 1 < W4.heap.size := by have := hst4.size; omega
  clear hW4 hst4 hb4 hB3 hs3 hz4 HbN HbD HbR HbG HbP HbX HbQ HbY
  have HbN : Hid (Blk W4 (w.heap.size) (g0 (n)) (g1 (n)) (g2 (n)) (g3 (n))) := bN
  have HbD : Hid (Blk W4 (w.heap.size + 1) (g0 (d)) (g1 (d)) (g2 (d)) (g3 (d))) := bD
  have HbR : Hid (Blk2 W4 (w.heap.size + 1 + 1) (0) (0)) := bR
  have HbG : Hid (Blk W4 (w1.heap.size) (g0 (G)) (g1 (G)) (g2 (G)) (g3 (G))) := bG
  have HbP : Hid (Blk W4 (w2.heap.size) (g0 (P)) (g1 (P)) (g2 (P)) (g3 (P))) := bP
  have HbX : Hid (Blk W4 (w2.heap.size + 1) (g0 (n % G)) (g1 (n % G)) (g2 (n % G)) (g3 (n % G))) := bX
  have HbQ : Hid (Blk W4 (w3.heap.size) (g0 (Q)) (g1 (Q)) (g2 (Q)) (g3 (Q))) := bQ
  have HbY : Hid (Blk W4 (w3.heap.size + 1) (g0 (d % G)) (g1 (d % G)) (g2 (d % G)) (g3 (d % G))) := bY
  have HbM : Hid (Blk W4 (w4.heap.size) (g0 (9223372036854775808)) (g1 (9223372036854775808)) (g2 (9223372036854775808)) (g3 (9223372036854775808))) := bM
  clear bN bD bR bG bP bX bQ bY bM
  obtain ⟨bM_0, bM_1, bM_2, bM_3, -, -, -, -⟩ := HbM.out
  obtain ⟨bP_0, bP_1, bP_2, bP_3, -, -, -, -⟩ := HbP.out
  go_wp2_with fail
  refine (rcompare_any P 9223372036854775808 _ hP (by omega) (by omega) (by omega)).mono ?_
  rintro e w5 ⟨rfl, hb5⟩
  have hz5 := hb5.size
  clear bM_0 bM_1 bM_2 bM_3
  clear bP_0 bP_1 bP_2 bP_3
  rw [e1.out]
  go_upto_region 6 with fail
  refine wp_world ?_
  intro W5 hW5
  have hst5 : Below W4.heap.size W4 W5 := by rw [hW5]; exact (by repeat' (first | (with_reducible exact Below.refl _ _) | (with_reducible assumption) | (with_reducible refine bdrewN _ ?_) | (with_reducible refine Below.alloc ?_ ?_ _) | (with_reducible refine Below.setCell ?_ ?_ _) | (with_reducible refine Below.drew ?_) | go_size | (simp; omega)))
  have hB5 : Below w.heap.size w W5 := hB4.trans (hst5.mono hB4.size)
  have hs5 : w.heap.size + 1 + 1 < W5.heap.size := by have := hst5.size; omega
  have bN : Blk W5 (w.heap.size) (g0 (n)) (g1 (n)) (g2 (n)) (g3 (n)) := HbN.out.below hst5 (by omega)
  have bD : Blk W5 (w.heap.size + 1) (g0 (d)) (g1 (d)) (g2 (d)) (g3 (d)) := HbD.out.below hst5 (by omega)
  have bR : Blk2 W5 (w.heap.size + 1 + 1) (0) (0) := HbR.out.below hst5 (by omega)
  have bG : Blk W5 (w1.heap.size) (g0 (G)) (g1 (G)) (g2 (G)) (g3 (G)) := HbG.out.below hst5 (by omega)
  have bP : Blk W5 (w2.heap.size) (g0 (P)) (g1 (P)) (g2 (P)) (g3 (P)) := HbP.out.below hst5 (by omega)
  have bX : Blk W5 (w2.heap.size + 1) (g0 (n % G)) (g1 (n % G)) (g2 (n % G)) (g3 (n % G)) := HbX.out.below hst5 (by omega)
  have bQ : Blk W5 (w3.heap.size) (g0 (Q)) (g1 (Q)) (g2 (Q)) (g3 (Q)) := HbQ.out.below hst5 (by omega)
  have bY : Blk W5 (w3.heap.size + 1) (g0 (d % G)) (g1 (d % G)) (g2 (d % G)) (g3 (d % G)) := HbY.out.below hst5 (by omega)
  have bM : Blk W5 (w4.heap.size) (g0 (9223372036854775808)) (g1 (9223372036854775808)) (g2 (9223372036854775808)) (g3 (9223372036854775808)) := HbM.out.below hst5 (by omega)
  have hl_bG : w1.heap.size < W5.heap.size := by have := hst5.size; omega
  have hl_bP : w2.heap.size < W5.heap.size := by have := hst5.size; omega
  have hl_bX : w2.heap.size + 1 < W5.heap.size := by have := hst5.size; omega
  have hl_bQ : w3.heap.size < W5.heap.size := by have := hst5.size; omega
  have hl_bY : w3.heap.size + 1 < W5.heap.size := by have := hst5.size; omega
  have hl_bM : w4.heap.size < W5.heap.size := by have := hst5.size; omega
  clear hW5 hst5 hb5 hB4 hs4 hz5 HbN HbD HbR HbG HbP HbX HbQ HbY HbM
  have HbN : Hid (Blk W5 (w.heap.size) (g0 (n)) (g1 (n)) (g2 (n)) (g3 (n))) := bN
  have HbD : Hid (Blk W5 (w.heap.size + 1) (g0 (d)) (g1 (d)) (g2 (d)) (g3 (d))) := bD
  have HbR : Hid (Blk2 W5 (w.heap.size + 1 + 1) (0) (0)) := bR
  have HbG : Hid (Blk W5 (w1.heap.size) (g0 (G)) (g1 (G)) (g2 (G)) (g3 (G))) := bG
  have HbP : Hid (Blk W5 (w2.heap.size) (g0 (P)) (g1 (P)) (g2 (P)) (g3 (P))) := bP
  have HbX : Hid (Blk W5 (w2.heap.size + 1) (g0 (n % G)) (g1 (n % G)) (g2 (n % G)) (g3 (n % G))) := bX
  have HbQ : Hid (Blk W5 (w3.heap.size) (g0 (Q)) (g1 (Q)) (g2 (Q)) (g3 (Q))) := bQ
  have HbY : Hid (Blk W5 (w3.heap.size + 1) (g0 (d % G)) (g1 (d % G)) (g2 (d % G)) (g3 (d % G))) := bY
  have HbM : Hid (Blk W5 (w4.heap.size) (g0 (9223372036854775808)) (g1 (9223372036854775808)) (g2 (9223372036854775808)) (g3 (9223372036854775808))) := bM
  clear bN bD bR bG bP bX bQ bY bM
  obtain ⟨bM_0, bM_1, bM_2, bM_3, -, -, -, -⟩ := HbM.out
  obtain ⟨bQ_0, bQ_1, bQ_2, bQ_3, -, -, -, -⟩ := HbQ.out
  go_wp2_with fail
  refine (rcompare_any Q 9223372036854775808 _ (by omega) (by omega) (by omega) (by omega)).mono ?_
  rintro e w6 ⟨rfl, hb6⟩
  have hz6 := hb6.size
  clear bM_0 bM_1 bM_2 bM_3
  clear bQ_0 bQ_1 bQ_2 bQ_3
  rw [e2.out]
  go_upto_region 7 with fail
  refine wp_world ?_
  intro W6 hW6
  have hst6 : Below W5.heap.size W5 W6 := by rw [hW6]; exact (by repeat' (first | (with_reducible exact Below.refl _ _) | (with_reducible assumption) | (with_reducible refine bdrewN _ ?_) | (with_reducible refine Below.alloc ?_ ?_ _) | (with_reducible refine Below.setCell ?_ ?_ _) | (with_reducible refine Below.drew ?_) | go_size | (simp; omega)))
  have hB6 : Below w.heap.size w W6 := hB5.trans (hst6.mono hB5.size)
  have hs6 : w.heap.size + 1 + 1 < W6.heap.size := by have := hst6.size; omega
  have bN : Blk W6 (w.heap.size) (g0 (n)) (g1 (n)) (g2 (n)) (g3 (n)) := HbN.out.below hst6 (by omega)
  have bD : Blk W6 (w.heap.size + 1) (g0 (d)) (g1 (d)) (g2 (d)) (g3 (d)) := HbD.out.below hst6 (by omega)
  have bR : Blk2 W6 (w.heap.size + 1 + 1) (0) (0) := HbR.out.below hst6 (by omega)
  have bG : Blk W6 (w1.heap.size) (g0 (G)) (g1 (G)) (g2 (G)) (g3 (G)) := HbG.out.below hst6 (by omega)
  have bP : Blk W6 (w2.heap.size) (g0 (P)) (g1 (P)) (g2 (P)) (g3 (P)) := HbP.out.below hst6 (by omega)
  have bX : Blk W6 (w2.heap.size + 1) (g0 (n % G)) (g1 (n % G)) (g2 (n % G)) (g3 (n % G)) := HbX.out.below hst6 (by omega)
  have bQ : Blk W6 (w3.heap.size) (g0 (Q)) (g1 (Q)) (g2 (Q)) (g3 (Q)) := HbQ.out.below hst6 (by omega)
  have bY : Blk W6 (w3.heap.size + 1) (g0 (d % G)) (g1 (d % G)) (g2 (d % G)) (g3 (d % G)) := HbY.out.below hst6 (by omega)
  have bM : Blk W6 (w4.heap.size) (g0 (9223372036854775808)) (g1 (9223372036854775808)) (g2 (9223372036854775808)) (g3 (9223372036854775808)) := HbM.out.below hst6 (by omega)
  have hl_bG : w1.heap.size < W6.heap.size := by have := hst6.size; omega
  have hl_bP : w2.heap.size < W6.heap.size := by have := hst6.size; omega
  have hl_bX : w2.heap.size + 1 < W6.heap.size := by have := hst6.size; omega
  have hl_bQ : w3.heap.size < W6.heap.size := by have := hst6.size; omega
  have hl_bY : w3.heap.size + 1 < W6.heap.size := by have := hst6.size; omega
  have hl_bM : w4.heap.size < W6.heap.size := by have := hst6.size; omega
  clear hW6 hst6 hb6 hB5 hs5 hz6 HbN HbD HbR HbG HbP HbX HbQ HbY HbM
  have bRR : Hid (Blk2 W6 (w.heap.size + 1 + 1) 0 0) := bR
  obtain ⟨bR0, bR1, bR2, bR3⟩ := bR
  obtain ⟨bP0, bP1, bP2, bP3, -, -, -, -⟩ := bP
  obtain ⟨bQ0, bQ1, bQ2, bQ3, -, -, -, -⟩ := bQ
  have zP0 := g0_bd P; have zP1 := g1_bd P; have zQ0 := g0_bd Q; have zQ1 := g1_bd Q
  clear bN bD bG bX bY bM
  rcases hcase with ⟨h2, rfl, rfl, rfl⟩ | ⟨h2, h1, rfl, rfl, rfl⟩ | ⟨h2, rfl, rfl, rfl, rfl, rfl⟩ | ⟨h2, rfl, rfl, hP3, hP2, hQ2, hN, hD, rfl⟩ | ⟨h2, h1, rfl, hP2, hQ2, hN, hD, rfl⟩ | ⟨h2, h1, rfl, hP3, hP2, hQ2, hN, hD, rfl⟩
  · skip
    go_wp2
    generalize hW9 : World.setCell _ _ _ = W9
    have b9 := bRR.out.two (0) (0)
    rw [hW9] at b9
    have hB9 : Below w.heap.size w W9 := by rw [← hW9]; exact (by repeat' (first | (with_reducible exact Below.refl _ _) | (with_reducible assumption) | (with_reducible refine bdrewN _ ?_) | (with_reducible refine Below.alloc ?_ ?_ _) | (with_reducible refine Below.setCell ?_ ?_ _) | (with_reducible refine Below.drew ?_) | go_size | (simp; omega)))
    clear hW9
    obtain ⟨x0, x1, -, -⟩ := b9
    refine bodyPost_ret (by simp [results, Tryz.results81, go_sem, x0, x1]; try rfl) rfl ?_
    exact ⟨rfl, hB9⟩
  · have h2f : (0 ≤ c2) = False := by simp; omega
    go_wp2
    generalize hW9 : World.setCell _ _ _ = W9
    have b9 := bRR.out.two (0) (0)
    rw [hW9] at b9
    have hB9 : Below w.heap.size w W9 := by rw [← hW9]; exact (by repeat' (first | (with_reducible exact Below.refl _ _) | (with_reducible assumption) | (with_reducible refine bdrewN _ ?_) | (with_reducible refine Below.alloc ?_ ?_ _) | (with_reducible refine Below.setCell ?_ ?_ _) | (with_reducible refine Below.drew ?_) | go_size | (simp; omega)))
    clear hW9
    obtain ⟨x0, x1, -, -⟩ := b9
    refine bodyPost_ret (by simp [results, Tryz.results81, go_sem, x0, x1]; try rfl) rfl ?_
    exact ⟨rfl, hB9⟩
  · have h2f : (0 ≤ c2) = False := by simp; omega
    go_wp2
    generalize hW9 : World.setCell _ _ _ = W9
    have b9 := bRR.out.two (0) (0)
    rw [hW9] at b9
    have hB9 : Below w.heap.size w W9 := by rw [← hW9]; exact (by repeat' (first | (with_reducible exact Below.refl _ _) | (with_reducible assumption) | (with_reducible refine bdrewN _ ?_) | (with_reducible refine Below.alloc ?_ ?_ _) | (with_reducible refine Below.setCell ?_ ?_ _) | (with_reducible refine Below.drew ?_) | go_size | (simp; omega)))
    clear hW9
    obtain ⟨x0, x1, -, -⟩ := b9
    refine bodyPost_ret (by simp [results, Tryz.results81, go_sem, x0, x1]; try rfl) rfl ?_
    exact ⟨rfl, hB9⟩
  · have hN : Hid (N = _) := hN
    have hD : Hid (D = Q) := hD
    have h2f : (0 ≤ c2) = False := by simp; omega
    have xP := low64 P (by omega) (by omega)
    have xQ := low64 Q (by omega) (by omega)
    go_wp2
    generalize hW9 : World.setCell _ _ _ = W9
    have b9 := bRR.out.two (-(P - 1) - 1) (Q)
    rw [hW9] at b9
    have hB9 : Below w.heap.size w W9 := by rw [← hW9]; exact (by repeat' (first | (with_reducible exact Below.refl _ _) | (with_reducible assumption) | (with_reducible refine bdrewN _ ?_) | (with_reducible refine Below.alloc ?_ ?_ _) | (with_reducible refine Below.setCell ?_ ?_ _) | (with_reducible refine Below.drew ?_) | go_size | (simp; omega)))
    clear hW9
    obtain ⟨x0, x1, -, -⟩ := b9
    refine bodyPost_ret (by simp [results, Tryz.results81, go_sem, x0, x1]; try rfl) rfl ?_
    exact ⟨ret_frac (by rw [hN.out]; omega) (by rw [hD.out]) rfl, hB9⟩
  · have hN : Hid (N = _) := hN
    have hD : Hid (D = Q) := hD
    have h2f : (0 ≤ c2) = False := by simp; omega
    have h1f : (0 < c1) = False := by simp; omega
    have h1e : (c1 = 0) = False := by simp; omega
    have h1b : (c1 == 0) = false := by simp; omega
    have xP := low64 P (by omega) (by omega)
    have xQ := low64 Q (by omega) (by omega)
    go_wp2
    generalize hW9 : World.setCell _ _ _ = W9
    have b9 := bRR.out.two (P) (Q)
    rw [hW9] at b9
    have hB9 : Below w.heap.size w W9 := by rw [← hW9]; exact (by repeat' (first | (with_reducible exact Below.refl _ _) | (with_reducible assumption) | (with_reducible refine bdrewN _ ?_) | (with_reducible refine Below.alloc ?_ ?_ _) | (with_reducible refine Below.setCell ?_ ?_ _) | (with_reducible refine Below.drew ?_) | go_size | (simp; omega)))
    clear hW9
    obtain ⟨x0, x1, -, -⟩ := b9
    refine bodyPost_ret (by simp [results, Tryz.results81, go_sem, x0, x1]; try rfl) rfl ?_
    exact ⟨ret_frac (by rw [hN.out]) (by rw [hD.out]) rfl, hB9⟩
  · have hN : Hid (N = _) := hN
    have hD : Hid (D = Q) := hD
    have h2f : (0 ≤ c2) = False := by simp; omega
    have h1f : (0 < c1) = False := by simp; omega
    have h1e : (c1 = 0) = False := by simp; omega
    have h1b : (c1 == 0) = false := by simp; omega
    have xP := low64 P (by omega) (by omega)
    have xQ := low64 Q (by omega) (by omega)
    go_wp2
    generalize hW9 : World.setCell _ _ _ = W9
    have b9 := bRR.out.two (-(P - 1) - 1) (Q)
    rw [hW9] at b9
    have hB9 : Below w.heap.size w W9 := by rw [← hW9]; exact (by repeat' (first | (with_reducible exact Below.refl _ _) | (with_reducible assumption) | (with_reducible refine bdrewN _ ?_) | (with_reducible refine Below.alloc ?_ ?_ _) | (with_reducible refine Below.setCell ?_ ?_ _) | (with_reducible refine Below.drew ?_) | go_size | (simp; omega)))
    clear hW9
    obtain ⟨x0, x1, -, -⟩ := b9
    refine bodyPost_ret (by simp [results, Tryz.results81, go_sem, x0, x1]; try rfl) rfl ?_
    exact ⟨ret_frac (by rw [hN.out]; omega) (by rw [hD.out]) rfl, hB9⟩

theorem rmade_any (b : Bool) (n d : Int) (w : World) (hn : 0 ≤ n) (hn' : n ≤ 170141183460469231731687303715884105728) (hd : 0 < d) (hd' : d ≤ 170141183460469231731687303715884105728) (hbn : b = true → 0 < n) :
    Calls Tryz.prog 81 #[.bool b, .agg #[.int .u64 (g0 n), .int .u64 (g1 n), .int .u64 (g2 n), .int .u64 (g3 n)], .agg #[.int .u64 (g0 d), .int .u64 (g1 d), .int .u64 (g2 d), .int .u64 (g3 d)]] w fun e w' => e = .returned (.tuple #[.agg #[.int .i64 (outN (sg b (n / gc n d)) (d / gc n d)), .int .i64 (outD (sg b (n / gc n d)) (d / gc n d))], .int .i64 (outE (sg b (n / gc n d)) (d / gc n d))]) ∧ Below w.heap.size w w' := by
  obtain ⟨q1, q2, q3, q4, q5, q6, q7⟩ := gc_part n d hn hd
  refine rmade_raw b n d (gc n d) (n / gc n d) (d / gc n d) _ _ _ _ _ w hn hn' hd hd' rfl rfl rfl q1 q2 q3 q4 q5 q6 rfl rfl ?_
  generalize n / gc n d = P at *
  generalize d / gc n d = Q at *
  unfold cmpI
  cases b
  · by_cases a1 : P ≤ 9223372036854775807 ∧ Q ≤ 9223372036854775807
    · obtain ⟨e1, e2, e3⟩ := out_yes (p := P) (q := Q) (by omega) a1.1 a1.2
      have e1' : outN (sg false P) Q = P := e1
      have e2' : outD (sg false P) Q = Q := e2
      have e3' : outE (sg false P) Q = 0 := e3
      rw [e1', e2', e3', if_pos (show P < 9223372036854775808 by omega), if_pos (show Q < 9223372036854775808 by omega)]
      simp; omega
    · obtain ⟨e1, e2, e3⟩ := out_no (p := P) (q := Q) (by omega)
      have e1' : outN (sg false P) Q = 0 := e1
      have e2' : outD (sg false P) Q = 0 := e2
      have e3' : outE (sg false P) Q = 10 := e3
      rw [e1', e2', e3']
      split <;> split <;> (try split) <;> (try split) <;> simp <;> omega
  · have hp := q7 (hbn rfl)
    by_cases a1 : P ≤ 9223372036854775808 ∧ Q ≤ 9223372036854775807
    · obtain ⟨e1, e2, e3⟩ := out_yes (p := -P) (q := Q) (by omega) (by omega) a1.2
      have e1' : outN (sg true P) Q = -P := e1
      have e2' : outD (sg true P) Q = Q := e2
      have e3' : outE (sg true P) Q = 0 := e3
      rw [e1', e2', e3', if_pos (show Q < 9223372036854775808 by omega)]
      split <;> (try split) <;> simp <;> omega
    · obtain ⟨e1, e2, e3⟩ := out_no (p := -P) (q := Q) (by omega)
      have e1' : outN (sg true P) Q = 0 := e1
      have e2' : outD (sg true P) Q = 0 := e2
      have e3' : outE (sg true P) Q = 10 := e3
      rw [e1', e2', e3']
      split <;> split <;> (try split) <;> (try split) <;> simp <;> omega

end Go.Proofs.YtedoahibceeklabGreatDoor
