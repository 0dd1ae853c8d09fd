/- The document's signatures: find, CheckSignature. -/
import Derived.Test.YtgmmhgbodddadaaGreatDoorZ02
import Derived.BigQuiet
import Derived.Deep.DeepCutAuto
import Derived.ArgAppend
import Derived.Laws.OwnMore
import Derived.Test.YtgmmhgbodddadaaGreatDoorZ01

namespace Go.Proofs.YtgmmhgbodddadaaGreatDoor
open Go.RowKit

/-- A block of two numbers, which may be written. -/
structure Blk2 (W : World) (B : Nat) (v0 v1 : Int) : Prop where
  c0 : W.cell? ⟨B, 0, none⟩ = some (.int .i64 v0)
  c1 : W.cell? ⟨B, 1, none⟩ = some (.int .i64 v1)
  f0 : W.frozen? ⟨B, 0, none⟩ = false
  f1 : W.frozen? ⟨B, 1, none⟩ = false
theorem Blk2.below {W W' : World} {B n : Nat} {v0 v1 : Int} (h : Blk2 W B v0 v1) (hb : Below n W W') (hB : B < n) : Blk2 W' B v0 v1 :=
  ⟨(hb.cell (p := ⟨B, 0, none⟩) hB).trans h.c0, (hb.cell (p := ⟨B, 1, none⟩) hB).trans h.c1, (hb.frozen (p := ⟨B, 0, none⟩) hB).trans h.f0, (hb.frozen (p := ⟨B, 1, none⟩) hB).trans h.f1⟩
theorem Blk2.two {W : World} {B : Nat} {v0 v1 : Int} (h : Blk2 W B v0 v1) (x0 x1 : Int) : Blk2 ((W.setCell ⟨B, 0, none⟩ (.int .i64 x0)).setCell ⟨B, 1, none⟩ (.int .i64 x1)) B x0 x1 := by
  obtain ⟨c0, c1, f0, f1⟩ := h
  constructor <;> simp (maxDischargeDepth := 12) [go_sem, c0, c1, f0, f1]
theorem gc_part (n d : Int) (hn : 0 ≤ n) (hd : 0 < d) : 0 < gc n d ∧ gc n d ≤ d ∧ 0 ≤ n / gc n d ∧ n / gc n d ≤ n ∧ 0 < d / gc n d ∧ d / gc n d ≤ d ∧ (0 < n → 0 < n / gc n d) := by
  have h1 := gc_pos n d hd
  have h2 := gc_le n d hd
  have pos : ∀ m, 0 < m → gc n d ∣ m → 0 < m / gc n d := by
    intro m hm hk
    obtain ⟨c, hc⟩ := hk
    have hc0 : 0 < c := by
      rcases Int.lt_or_le 0 c with h | h
      · exact h
      · have := Int.mul_le_mul_of_nonneg_left h (Int.le_of_lt h1); omega
    have e : m / gc n d = c := by
      have : m / gc n d = gc n d * c / gc n d := congrArg (· / gc n d) hc
      rw [this, Int.mul_ediv_cancel_left _ (by omega)]
    omega
  exact ⟨h1, h2, Int.ediv_nonneg hn (by omega), div_le_self n _ hn h1, pos d hd (gc_dvd_right n d (by omega)), div_le_self d _ (by omega) h1, fun h => pos n h (gc_dvd_left n d hn)⟩

theorem low64 (x : Int) (h0 : 0 ≤ x) (h1 : x ≤ 18446744073709551615) : g1 x * 4294967296 + g0 x = x := by unfold g0 g1; omega

set_option maxRecDepth 100000 in
set_option maxHeartbeats 8000000 in
theorem rmade_raw (b : Bool) (n d G P Q c1 c2 N D E : Int) (w : World) (hn : 0 ≤ n) (hn' : n ≤ 170141183460469231731687303715884105728) (hd : 0 < d) (hd' : d ≤ 170141183460469231731687303715884105728)
    (eG : Hid (gc n d = G)) (eP : Hid (n / G = P)) (eQ : Hid (d / G = Q)) (hG : 0 < G) (hG' : G ≤ d) (hP : 0 ≤ P) (hP' : P ≤ n) (hQ : 0 < Q) (hQ' : Q ≤ d) (e1 : Hid (cmpI P 9223372036854775808 = c1)) (e2 : Hid (cmpI Q 9223372036854775808 = c2))
    (hcase : (0 ≤ c2 ∧ N = 0 ∧ D = 0 ∧ E = 10) ∨ (c2 < 0 ∧ 0 < c1 ∧ N = 0 ∧ D = 0 ∧ E = 10) ∨ (c2 < 0 ∧ c1 = 0 ∧ b = false ∧ N = 0 ∧ D = 0 ∧ E = 10) ∨ (c2 < 0 ∧ c1 = 0 ∧ b = true ∧ 0 < P ∧ P ≤ 9223372036854775808 ∧ Q < 9223372036854775808 ∧ N = -P ∧ D = Q ∧ E = 0) ∨ (c2 < 0 ∧ c1 < 0 ∧ b = false ∧ P < 9223372036854775808 ∧ Q < 9223372036854775808 ∧ N = P ∧ D = Q ∧ E = 0) ∨ (c2 < 0 ∧ c1 < 0 ∧ b = true ∧ 0 < P ∧ P < 9223372036854775808 ∧ Q < 9223372036854775808 ∧ N = -P ∧ D = Q ∧ E = 0)) :
    Calls Tryz.prog 123 #[.bool b, .agg #[.int .u64 (g0 n), .int .u64 (g1 n), .int .u64 (g2 n), .int .u64 (g3 n)], .agg #[.int .u64 (g0 d), .int .u64 (g1 d), .int .u64 (g2 d), .int .u64 (g3 d)]] w fun e w' => e = .returned (.tuple #[.agg #[.int .i64 N, .int .i64 D], .int .i64 E]) ∧ Below w.heap.size w w' := by
  go_enter Tryz.func123, Tryz.ntmps123
  go_upto_region 1 with fail
  refine wp_world ?_
  intro W0 hW0
  have hs0 : w.heap.size + 1 + 1 < W0.heap.size := by rw [hW0]; simp
  have bN : Blk W0 (w.heap.size) (g0 (n)) (g1 (n)) (g2 (n)) (g3 (n)) := by rw [hW0]; constructor <;> simp (maxDischargeDepth := 12) [go_sem]
  have bD : Blk W0 (w.heap.size + 1) (g0 (d)) (g1 (d)) (g2 (d)) (g3 (d)) := by rw [hW0]; constructor <;> simp (maxDischargeDepth := 12) [go_sem]
  have bR : Blk2 W0 (w.heap.size + 1 + 1) 0 0 := by rw [hW0]; constructor <;> simp (maxDischargeDepth := 12) [go_sem]
  have hB0 : Below w.heap.size w W0 := by rw [hW0]; exact (by repeat' (first | (with_reducible exact Below.refl _ _) | (with_reducible assumption) | (with_reducible refine bdrewN _ ?_) | (with_reducible refine Below.alloc ?_ ?_ _) | (with_reducible refine Below.setCell ?_ ?_ _) | (with_reducible refine Below.drew ?_) | go_size | (simp; omega)))
  clear hW0
  have HbN : Hid (Blk W0 (w.heap.size) (g0 (n)) (g1 (n)) (g2 (n)) (g3 (n))) := bN
  have HbD : Hid (Blk W0 (w.heap.size + 1) (g0 (d)) (g1 (d)) (g2 (d)) (g3 (d))) := bD
  have HbR : Hid (Blk2 W0 (w.heap.size + 1 + 1) (0) (0)) := bR
  clear bN bD bR
  obtain ⟨bD_0, bD_1, bD_2, bD_3, -, -, -, -⟩ := HbD.out
  obtain ⟨bN_0, bN_1, bN_2, bN_3, -, -, -, -⟩ := HbN.out
  go_wp2_with fail
  refine (rcommon_any n d _ hn (by omega) (by omega) hd').mono ?_
  rintro e w1 ⟨rfl, hb1⟩
  have hz1 := hb1.size
  clear bD_0 bD_1 bD_2 bD_3
  clear bN_0 bN_1 bN_2 bN_3
  rw [eG.out]
  go_upto_region 2 with fail
  refine wp_world ?_
  intro W1 hW1
  have hst1 : Below W0.heap.size W0 W1 := by rw [hW1]; exact (by repeat' (first | (with_reducible exact Below.refl _ _) | (with_reducible assumption) | (with_reducible refine bdrewN _ ?_) | (with_reducible refine Below.alloc ?_ ?_ _) | (with_reducible refine Below.setCell ?_ ?_ _) | (with_reducible refine Below.drew ?_) | go_size | (simp; omega)))
  have hB1 : Below w.heap.size w W1 := hB0.trans (hst1.mono hB0.size)
  have hs1 : w.heap.size + 1 + 1 < W1.heap.size := by have := hst1.size; omega
  have bN : Blk W1 (w.heap.size) (g0 (n)) (g1 (n)) (g2 (n)) (g3 (n)) := HbN.out.below hst1 (by omega)
  have bD : Blk W1 (w.heap.size + 1) (g0 (d)) (g1 (d)) (g2 (d)) (g3 (d)) := HbD.out.below hst1 (by omega)
  have bR : Blk2 W1 (w.heap.size + 1 + 1) (0) (0) := HbR.out.below hst1 (by omega)
  have bG : Blk W1 (w1.heap.size) (g0 (G)) (g1 (G)) (g2 (G)) (g3 (G)) := by rw [hW1]; constructor <;> simp (maxDischargeDepth := 12) [go_sem]
  have hl_bG : w1.heap.size < W1.heap.size := by rw [hW1]; first | (simp; done) | (simp; omega)
  clear hW1 hst1 hb1 hB0 hs0 hz1 HbN HbD HbR
  have HbN : Hid (Blk W1 (w.heap.size) (g0 (n)) (g1 (n)) (g2 (n)) (g3 (n))) := bN
  have HbD : Hid (Blk W1 (w.heap.size + 1) (g0 (d)) (g1 (d)) (g2 (d)) (g3 (d))) := bD
  have HbR : Hid (Blk2 W1 (w.heap.size + 1 + 1) (0) (0)) := bR
  have HbG : Hid (Blk W1 (w1.heap.size) (g0 (G)) (g1 (G)) (g2 (G)) (g3 (G))) := bG
  clear bN bD bR bG
  obtain ⟨bG_0, bG_1, bG_2, bG_3, -, -, -, -⟩ := HbG.out
  obtain ⟨bN_0, bN_1, bN_2, bN_3, -, -, -, -⟩ := HbN.out
  go_wp2_with fail
  refine (rdiv_any n G _ hn (by omega) hG (by omega)).mono ?_
  rintro e w2 ⟨rfl, hb2⟩
  have hz2 := hb2.size
  clear bG_0 bG_1 bG_2 bG_3
  clear bN_0 bN_1 bN_2 bN_3
  rw [eP.out]
  go_upto_region 3 with fail
  refine wp_world ?_
  intro W2 hW2
  have hst2 : Below W1.heap.size W1 W2 := by rw [hW2]; exact (by repeat' (first | (with_reducible exact Below.refl _ _) | (with_reducible assumption) | (with_reducible refine bdrewN _ ?_) | (with_reducible refine Below.alloc ?_ ?_ _) | (with_reducible refine Below.setCell ?_ ?_ _) | (with_reducible refine Below.drew ?_) | go_size | (simp; omega)))
  have hB2 : Below w.heap.size w W2 := hB1.trans (hst2.mono hB1.size)
  have hs2 : w.heap.size + 1 + 1 < W2.heap.size := by have := hst2.size; omega
  have bN : Blk W2 (w.heap.size) (g0 (n)) (g1 (n)) (g2 (n)) (g3 (n)) := HbN.out.below hst2 (by omega)
  have bD : Blk W2 (w.heap.size + 1) (g0 (d)) (g1 (d)) (g2 (d)) (g3 (d)) := HbD.out.below hst2 (by omega)
  have bR : Blk2 W2 (w.heap.size + 1 + 1) (0) (0) := HbR.out.below hst2 (by omega)
  have bG : Blk W2 (w1.heap.size) (g0 (G)) (g1 (G)) (g2 (G)) (g3 (G)) := HbG.out.below hst2 (by omega)
  have bP : Blk W2 (w2.heap.size) (g0 (P)) (g1 (P)) (g2 (P)) (g3 (P)) := by rw [hW2]; constructor <;> simp (maxDischargeDepth := 12) [go_sem]
  have hl_bP : w2.heap.size < W2.heap.size := by rw [hW2]; first | (simp; done) | (simp; omega)
  have bX : Blk W2 (w2.heap.size + 1) (g0 (n % G)) (g1 (n % G)) (g2 (n % G)) (g3 (n % G)) := by rw [hW2]; constructor <;> simp (maxDischargeDepth := 12) [go_sem]
  have hl_bX : w2.heap.size + 1 < W2.heap.size := by rw [hW2]; first | (simp; done) | (simp; omega)
  have hl_bG : w1.heap.size < W2.heap.size := by have := hst2.size; omega
  clear hW2 hst2 hb2 hB1 hs1 hz2 HbN HbD HbR HbG
  have HbN : Hid (Blk W2 (w.heap.size) (g0 (n)) (g1 (n)) (g2 (n)) (g3 (n))) := bN
  have HbD : Hid (Blk W2 (w.heap.size + 1) (g0 (d)) (g1 (d)) (g2 (d)) (g3 (d))) := bD
  have HbR : Hid (Blk2 W2 (w.heap.size + 1 + 1) (0) (0)) := bR
  have HbG : Hid (Blk W2 (w1.heap.size) (g0 (G)) (g1 (G)) (g2 (G)) (g3 (G))) := bG
  have HbP : Hid (Blk W2 (w2.heap.size) (g0 (P)) (g1 (P)) (g2 (P)) (g3 (P))) := bP
  have HbX : Hid (Blk W2 (w2.heap.size + 1) (g0 (n % G)) (g1 (n % G)) (g2 (n % G)) (g3 (n % G))) := bX
  clear bN bD bR bG bP bX
  obtain ⟨bD_0, bD_1, bD_2, bD_3, -, -, -, -⟩ := HbD.out
  obtain ⟨bG_0, bG_1, bG_2, bG_3, -, -, -, -⟩ := HbG.out
  go_wp2_with fail
  refine (rdiv_any d G _ (by omega) (by omega) hG (by omega)).mono ?_
  rintro e w3 ⟨rfl, hb3⟩
  have hz3 := hb3.size
  clear bD_0 bD_1 bD_2 bD_3
  clear bG_0 bG_1 bG_2 bG_3
  rw [eQ.out]
  go_upto_region 4 with fail
  refine wp_world ?_
  intro W3 hW3
  have hst3 : Below W2.heap.size W2 W3 := by rw [hW3]; exact (by repeat' (first | (with_reducible exact Below.refl _ _) | (with_reducible assumption) | (with_reducible refine bdrewN _ ?_) | (with_reducible refine Below.alloc ?_ ?_ _) | (with_reducible refine Below.setCell ?_ ?_ _) | (with_reducible refine Below.drew ?_) | go_size | (simp; omega)))
  have hB3 : Below w.heap.size w W3 := hB2.trans (hst3.mono hB2.size)
  have hs3 : w.heap.size + 1 + 1 < W3.heap.size := by have := hst3.size; omega
  have bN : Blk W3 (w.heap.size) (g0 (n)) (g1 (n)) (g2 (n)) (g3 (n)) := HbN.out.below hst3 (by omega)
  have bD : Blk W3 (w.heap.size + 1) (g0 (d)) (g1 (d)) (g2 (d)) (g3 (d)) := HbD.out.below hst3 (by omega)
  have bR : Blk2 W3 (w.heap.size + 1 + 1) (0) (0) := HbR.out.below hst3 (by omega)
  have bG : Blk W3 (w1.heap.size) (g0 (G)) (g1 (G)) (g2 (G)) (g3 (G)) := HbG.out.below hst3 (by omega)
  have bP : Blk W3 (w2.heap.size) (g0 (P)) (g1 (P)) (g2 (P)) (g3 (P)) := HbP.out.below hst3 (by omega)
  have bX : Blk W3 (w2.heap.size + 1) (g0 (n % G)) (g1 (n % G)) (g2 (n % G)) (g3 (n % G)) := HbX.out.below hst3 (by omega)
  have bQ : Blk W3 (w3.heap.size) (g0 (Q)) (g1 (Q)) (g2 (Q)) (g3 (Q)) := by rw [hW3]; constructor <;> simp (maxDischargeDepth := 12) [go_sem]
  have hl_bQ : w3.heap.size < W3.heap.size := by rw [hW3]; first | (simp; done) | (simp; omega)
  have bY : Blk W3 (w3.heap.size + 1) (g0 (d % G)) (g1 (d % G)) (g2 (d % G)) (g3 (d % G)) := by rw [hW3]; constructor <;> simp (maxDischargeDepth := 12) [go_sem]
  have hl_bY : w3.heap.size + 1 < W3.heap.size := by rw [hW3]; first | (simp; done) | (simp; omega)
  have hl_bG : w1.heap.size < W3.heap.size := by have := hst3.size; omega
  have hl_bP : w2.heap.size < W3.heap.size := by have := hst3.size; omega
  have hl_bX : w2.heap.size + 1 < W3.heap.size := by have := hst3.size; omega
  clear hW3 hst3 hb3 hB2 hs2 hz3 HbN HbD HbR HbG HbP HbX
  have HbN : Hid (Blk W3 (w.heap.size) (g0 (n)) (g1 (n)) (g2 (n)) (g3 (n))) := bN
  have HbD : Hid (Blk W3 (w.heap.size + 1) (g0 (d)) (g1 (d)) (g2 (d)) (g3 (d))) := bD
  have HbR : Hid (Blk2 W3 (w.heap.size + 1 + 1) (0) (0)) := bR
  have HbG : Hid (Blk W3 (w1.heap.size) (g0 (G)) (g1 (G)) (g2 (G)) (g3 (G))) := bG
  have HbP : Hid (Blk W3 (w2.heap.size) (g0 (P)) (g1 (P)) (g2 (P)) (g3 (P))) := bP
  have HbX : Hid (Blk W3 (w2.heap.size + 1) (g0 (n % G)) (g1 (n % G)) (g2 (n % G)) (g3 (n % G))) := bX
  have HbQ : Hid (Blk W3 (w3.heap.size) (g0 (Q)) (g1 (Q)) (g2 (Q)) (g3 (Q))) := bQ
  have HbY : Hid (Blk W3 (w3.heap.size + 1) (g0 (d % G)) (g1 (d % G)) (g2 (d % G)) (g3 (d % G))) := bY
  clear bN bD bR bG bP bX bQ bY
  go_wp2_with fail
  refine (rof_any 9223372036854775808 _ (by omega) (by omega)).mono ?_
  rintro e w4 ⟨rfl, hb4⟩
  have hz4 := hb4.size
  go_upto_region 5 with fail
  refine wp_world ?_
  intro W4 hW4
  have hst4 : Below W3.heap.size W3 W4 := by rw [hW4]; exact (by repeat' (first | (with_reducible exact Below.refl _ _) | (with_reducible assumption) | (with_reducible refine bdrewN _ ?_) | (with_reducible refine Below.alloc ?_ ?_ _) | (with_reducible refine Below.setCell ?_ ?_ _) | (with_reducible refine Below.drew ?_) | go_size | (simp; omega)))
  have hB4 : Below w.heap.size w W4 := hB3.trans (hst4.mono hB3.size)
  have hs4 : w.heap.size + 1 + 1 < W4.heap.size := by have := hst4.size; omega
  have bN : Blk W4 (w.heap.size) (g0 (n)) (g1 (n)) (g2 (n)) (g3 (n)) := HbN.out.below hst4 (by omega)
  have bD : Blk W4 (w.heap.size + 1) (g0 (d)) (g1 (d)) (g2 (d)) (g3 (d)) := HbD.out.below hst4 (by omega)
  have bR : Blk2 W4 (w.heap.size + 1 + 1) (0) (0) := HbR.out.below hst4 (by omega)
  have bG : Blk W4 (w1.heap.size) (g0 (G)) (g1 (G)) (g2 (G)) (g3 (G)) := HbG.out.below hst4 (by omega)
  have bP : Blk W4 (w2.heap.size) (g0 (P)) (g1 (P)) (g2 (P)) (g3 (P)) := HbP.out.below hst4 (by omega)
  have bX : Blk W4 (w2.heap.size + 1) (g0 (n % G)) (g1 (n % G)) (g2 (n % G)) (g3 (n % G)) := HbX.out.below hst4 (by omega)
  have bQ : Blk W4 (w3.heap.size) (g0 (Q)) (g1 (Q)) (g2 (Q)) (g3 (Q)) := HbQ.out.below hst4 (by omega)
  have bY : Blk W4 (w3.heap.size + 1) (g0 (d % G)) (g1 (d % G)) (g2 (d % G)) (g3 (d % G)) := HbY.out.below hst4 (by omega)
  have bM : Blk W4 (w4.heap.size) (g0 (9223372036854775808)) (g1 (9223372036854775808)) (g2 (9223372036854775808)) (g3 (9223372036854775808)) := by rw [hW4]; constructor <;> simp (maxDischargeDepth := 12) [go_sem]
  have hl_bM : w4.heap.size < W4.heap.size := by rw [hW4]; first | (simp; done) | (simp; omega)
  have hl_bG : w1.heap.size < W4.heap.size := by have := hst4.size; omega
  have hl_bP : w2.heap.size < W4.heap.size := by have := hst4.size; omega
  have hl_bX : w2.heap.size + 1 < W4.heap.size := by have := hst4.size; omega
  have hl_bQ : w3.heap.size < W4.heap.size := by have := hst4.size; omega
  have hl_bY : w3.heap.size + 1 < W4.heap.size := by have := hst4.size; omega
  clear hW4 hst4 hb4 hB3 hs3 hz4 HbN HbD HbR HbG HbP HbX HbQ HbY
  have HbN : Hid (Blk W4 (w.heap.size) (g0 (n)) (g1 (n)) (g2 (n)) (g3 (n))) := bN
  have HbD : Hid (Blk W4 (w.heap.size + 1) (g0 (d)) (g1 (d)) (g2 (d)) (g3 (d))) := bD
  have HbR : Hid (Blk2 W4 (w.heap.size + 1 + 1) (0) (0)) := bR
  have HbG : Hid (Blk W4 (w1.heap.size) (g0 (G)) (g1 (G)) (g2 (G)) (g3 (G))) := bG
  have HbP : Hid (Blk W4 (w2.heap.size) (g0 (P)) (g1 (P)) (g2 (P)) (g3 (P))) := bP
  have HbX : Hid (Blk W4 (w2.heap.size + 1) (g0 (n % G)) (g1 (n % G)) (g2 (n % G)) (g3 (n % G))) := bX
  have HbQ : Hid (Blk W4 (w3.heap.size) (g0 (Q)) (g1 (Q)) (g2 (Q)) (g3 (Q))) := bQ
  have HbY : Hid (Blk W4 (w3.heap.size + 1) (g0 (d % G)) (g1 (d % G)) (g2 (d % G)) (g3 (d % G))) := bY
  have HbM : Hid (Blk W4 (w4.heap.size) (g0 (9223372036854775808)) (g1 (9223372036854775808)) (g2 (9223372036854775808)) (g3 (9223372036854775808))) := bM
  clear bN bD bR bG bP bX bQ bY bM
  obtain ⟨bM_0, bM_1, bM_2, bM_3, -, -, -, -⟩ := HbM.out
  obtain ⟨bP_0, bP_1, bP_2, bP_3, -, -, -, -⟩ := HbP.out
  go_wp2_with fail
  refine (rcompare_any P 9223372036854775808 _ hP (by omega) (by omega) (by omega)).mono ?_
  rintro e w5 ⟨rfl, hb5⟩
  have hz5 := hb5.size
  clear bM_0 bM_1 bM_2 bM_3
  clear bP_0 bP_1 bP_2 bP_3
  rw [e1.out]
  go_upto_region 6 with fail
  refine wp_world ?_
  intro W5 hW5
  have hst5 : Below W4.heap.size W4 W5 := by rw [hW5]; exact (by repeat' (first | (with_reducible exact Below.refl _ _) | (with_reducible assumption) | (with_reducible refine bdrewN _ ?_) | (with_reducible refine Below.alloc ?_ ?_ _) | (with_reducible refine Below.setCell ?_ ?_ _) | (with_reducible refine Below.drew ?_) | go_size | (simp; omega)))
  have hB5 : Below w.heap.size w W5 := hB4.trans (hst5.mono hB4.size)
  have hs5 : w.heap.size + 1 + 1 < W5.heap.size := by have := hst5.size; omega
  have bN : Blk W5 (w.heap.size) (g0 (n)) (g1 (n)) (g2 (n)) (g3 (n)) := HbN.out.below hst5 (by omega)
  have bD : Blk W5 (w.heap.size + 1) (g0 (d)) (g1 (d)) (g2 (d)) (g3 (d)) := HbD.out.below hst5 (by omega)
  have bR : Blk2 W5 (w.heap.size + 1 + 1) (0) (0) := HbR.out.below hst5 (by omega)
  have bG : Blk W5 (w1.heap.size) (g0 (G)) (g1 (G)) (g2 (G)) (g3 (G)) := HbG.out.below hst5 (by omega)
  have bP : Blk W5 (w2.heap.size) (g0 (P)) (g1 (P)) (g2 (P)) (g3 (P)) := HbP.out.below hst5 (by omega)
  have bX : Blk W5 (w2.heap.size + 1) (g0 (n % G)) (g1 (n % G)) (g2 (n % G)) (g3 (n % G)) := HbX.out.below hst5 (by omega)
  have bQ : Blk W5 (w3.heap.size) (g0 (Q)) (g1 (Q)) (g2 (Q)) (g3 (Q)) := HbQ.out.below hst5 (by omega)
  have bY : Blk W5 (w3.heap.size + 1) (g0 (d % G)) (g1 (d % G)) (g2 (d % G)) (g3 (d % G)) := HbY.out.below hst5 (by omega)
  have bM : Blk W5 (w4.heap.size) (g0 (9223372036854775808)) (g1 (9223372036854775808)) (g2 (9223372036854775808)) (g3 (9223372036854775808)) := HbM.out.below hst5 (by omega)
  have hl_bG : w1.heap.size < W5.heap.size := by have := hst5.size; omega
  have hl_bP : w2.heap.size < W5.heap.size := by have := hst5.size; omega
  have hl_bX : w2.heap.size + 1 < W5.heap.size := by have := hst5.size; omega
  have hl_bQ : w3.heap.size < W5.heap.size := by have := hst5.size; omega
  have hl_bY : w3.heap.size + 1 < W5.heap.size := by have := hst5.size; omega
  have hl_bM : w4.heap.size < W5.heap.size := by have := hst5.size; omega
  clear hW5 hst5 hb5 hB4 hs4 hz5 HbN HbD HbR HbG HbP HbX HbQ HbY HbM
  have HbN : Hid (Blk W5 (w.heap.size) (g0 (n)) (g1 (n)) (g2 (n)) (g3 (n))) := bN
  have HbD : Hid (Blk W5 (w.heap.size + 1) (g0 (d)) (g1 (d)) (g2 (d)) (g3 (d))) := bD
  have HbR : Hid (Blk2 W5 (w.heap.size + 1 + 1) (0) (0)) := bR
  have HbG : Hid (Blk W5 (w1.heap.size) (g0 (G)) (g1 (G)) (g2 (G)) (g3 (G))) := bG
  have HbP : Hid (Blk W5 (w2.heap.size) (g0 (P)) (g1 (P)) (g2 (P)) (g3 (P))) := bP
  have HbX : Hid (Blk W5 (w2.heap.size + 1) (g0 (n % G)) (g1 (n % G)) (g2 (n % G)) (g3 (n % G))) := bX
  have HbQ : Hid (Blk W5 (w3.heap.size) (g0 (Q)) (g1 (Q)) (g2 (Q)) (g3 (Q))) := bQ
  have HbY : Hid (Blk W5 (w3.heap.size + 1) (g0 (d % G)) (g1 (d % G)) (g2 (d % G)) (g3 (d % G))) := bY
  have HbM : Hid (Blk W5 (w4.heap.size) (g0 (9223372036854775808)) (g1 (9223372036854775808)) (g2 (9223372036854775808)) (g3 (9223372036854775808))) := bM
  clear bN bD bR bG bP bX bQ bY bM
  obtain ⟨bM_0, bM_1, bM_2, bM_3, -, -, -, -⟩ := HbM.out
  obtain ⟨bQ_0, bQ_1, bQ_2, bQ_3, -, -, -, -⟩ := HbQ.out
  go_wp2_with fail
  refine (rcompare_any Q 9223372036854775808 _ (by omega) (by omega) (by omega) (by omega)).mono ?_
  rintro e w6 ⟨rfl, hb6⟩
  have hz6 := hb6.size
  clear bM_0 bM_1 bM_2 bM_3
  clear bQ_0 bQ_1 bQ_2 bQ_3
  rw [e2.out]
  go_upto_region 7 with fail
  refine wp_world ?_
  intro W6 hW6
  have hst6 : Below W5.heap.size W5 W6 := by rw [hW6]; exact (by repeat' (first | (with_reducible exact Below.refl _ _) | (with_reducible assumption) | (with_reducible refine bdrewN _ ?_) | (with_reducible refine Below.alloc ?_ ?_ _) | (with_reducible refine Below.setCell ?_ ?_ _) | (with_reducible refine Below.drew ?_) | go_size | (simp; omega)))
  have hB6 : Below w.heap.size w W6 := hB5.trans (hst6.mono hB5.size)
  have hs6 : w.heap.size + 1 + 1 < W6.heap.size := by have := hst6.size; omega
  have bN : Blk W6 (w.heap.size) (g0 (n)) (g1 (n)) (g2 (n)) (g3 (n)) := HbN.out.below hst6 (by omega)
  have bD : Blk W6 (w.heap.size + 1) (g0 (d)) (g1 (d)) (g2 (d)) (g3 (d)) := HbD.out.below hst6 (by omega)
  have bR : Blk2 W6 (w.heap.size + 1 + 1) (0) (0) := HbR.out.below hst6 (by omega)
  have bG : Blk W6 (w1.heap.size) (g0 (G)) (g1 (G)) (g2 (G)) (g3 (G)) := HbG.out.below hst6 (by omega)
  have bP : Blk W6 (w2.heap.size) (g0 (P)) (g1 (P)) (g2 (P)) (g3 (P)) := HbP.out.below hst6 (by omega)
  have bX : Blk W6 (w2.heap.size + 1) (g0 (n % G)) (g1 (n % G)) (g2 (n % G)) (g3 (n % G)) := HbX.out.below hst6 (by omega)
  have bQ : Blk W6 (w3.heap.size) (g0 (Q)) (g1 (Q)) (g2 (Q)) (g3 (Q)) := HbQ.out.below hst6 (by omega)
  have bY : Blk W6 (w3.heap.size + 1) (g0 (d % G)) (g1 (d % G)) (g2 (d % G)) (g3 (d % G)) := HbY.out.below hst6 (by omega)
  have bM : Blk W6 (w4.heap.size) (g0 (9223372036854775808)) (g1 (9223372036854775808)) (g2 (9223372036854775808)) (g3 (9223372036854775808)) := HbM.out.below hst6 (by omega)
  have hl_bG : w1.heap.size < W6.heap.size := by have := hst6.size; omega
  have hl_bP : w2.heap.size < W6.heap.size := by have := hst6.size; omega
  have hl_bX : w2.heap.size + 1 < W6.heap.size := by have := hst6.size; omega
  have hl_bQ : w3.heap.size < W6.heap.size := by have := hst6.size; omega
  have hl_bY : w3.heap.size + 1 < W6.heap.size := by have := hst6.size; omega
  have hl_bM : w4.heap.size < W6.heap.size := by have := hst6.size; omega
  clear hW6 hst6 hb6 hB5 hs5 hz6 HbN HbD HbR HbG HbP HbX HbQ HbY HbM
  have bRR : Hid (Blk2 W6 (w.heap.size + 1 + 1) 0 0) := bR
  obtain ⟨bR0, bR1, bR2, bR3⟩ := bR
  obtain ⟨bP0, bP1, bP2, bP3, -, -, -, -⟩ := bP
  obtain ⟨bQ0, bQ1, bQ2, bQ3, -, -, -, -⟩ := bQ
  have zP0 := g0_bd P; have zP1 := g1_bd P; have zQ0 := g0_bd Q; have zQ1 := g1_bd Q
  clear bN bD bG bX bY bM
  rcases hcase with ⟨h2, rfl, rfl, rfl⟩ | ⟨h2, h1, rfl, rfl, rfl⟩ | ⟨h2, rfl, rfl, rfl, rfl, rfl⟩ | ⟨h2, rfl, rfl, hP3, hP2, hQ2, hN, hD, rfl⟩ | ⟨h2, h1, rfl, hP2, hQ2, hN, hD, rfl⟩ | ⟨h2, h1, rfl, hP3, hP2, hQ2, hN, hD, rfl⟩
  · skip
    go_wp2
    generalize hW9 : World.setCell _ _ _ = W9
    have b9 := bRR.out.two (0) (0)
    rw [hW9] at b9
    have hB9 : Below w.heap.size w W9 := by rw [← hW9]; exact (by repeat' (first | (with_reducible exact Below.refl _ _) | (with_reducible assumption) | (with_reducible refine bdrewN _ ?_) | (with_reducible refine Below.alloc ?_ ?_ _) | (with_reducible refine Below.setCell ?_ ?_ _) | (with_reducible refine Below.drew ?_) | go_size | (simp; omega)))
    clear hW9
    obtain ⟨x0, x1, -, -⟩ := b9
    refine bodyPost_ret (by simp [results, Tryz.results123, go_sem, x0, x1]; try rfl) rfl ?_
    exact ⟨rfl, hB9⟩
  · have h2f : (0 ≤ c2) = False := by simp; omega
    go_wp2
    generalize hW9 : World.setCell _ _ _ = W9
    have b9 := bRR.out.two (0) (0)
    rw [hW9] at b9
    have hB9 : Below w.heap.size w W9 := by rw [← hW9]; exact (by repeat' (first | (with_reducible exact Below.refl _ _) | (with_reducible assumption) | (with_reducible refine bdrewN _ ?_) | (with_reducible refine Below.alloc ?_ ?_ _) | (with_reducible refine Below.setCell ?_ ?_ _) | (with_reducible refine Below.drew ?_) | go_size | (simp; omega)))
    clear hW9
    obtain ⟨x0, x1, -, -⟩ := b9
    refine bodyPost_ret (by simp [results, Tryz.results123, go_sem, x0, x1]; try rfl) rfl ?_
    exact ⟨rfl, hB9⟩
  · have h2f : (0 ≤ c2) = False := by simp; omega
    go_wp2
    generalize hW9 : World.setCell _ _ _ = W9
    have b9 := bRR.out.two (0) (0)
    rw [hW9] at b9
    have hB9 : Below w.heap.size w W9 := by rw [← hW9]; exact (by repeat' (first | (with_reducible exact Below.refl _ _) | (with_reducible assumption) | (with_reducible refine bdrewN _ ?_) | (with_reducible refine Below.alloc ?_ ?_ _) | (with_reducible refine Below.setCell ?_ ?_ _) | (with_reducible refine Below.drew ?_) | go_size | (simp; omega)))
    clear hW9
    obtain ⟨x0, x1, -, -⟩ := b9
    refine bodyPost_ret (by simp [results, Tryz.results123, go_sem, x0, x1]; try rfl) rfl ?_
    exact ⟨rfl, hB9⟩
  · have hN : Hid (N = _) := hN
    have hD : Hid (D = Q) := hD
    have h2f : (0 ≤ c2) = False := by simp; omega
    have xP := low64 P (by omega) (by omega)
    have xQ := low64 Q (by omega) (by omega)
    go_wp2
    generalize hW9 : World.setCell _ _ _ = W9
    have b9 := bRR.out.two (-(P - 1) - 1) (Q)
    rw [hW9] at b9
    have hB9 : Below w.heap.size w W9 := by rw [← hW9]; exact (by repeat' (first | (with_reducible exact Below.refl _ _) | (with_reducible assumption) | (with_reducible refine bdrewN _ ?_) | (with_reducible refine Below.alloc ?_ ?_ _) | (with_reducible refine Below.setCell ?_ ?_ _) | (with_reducible refine Below.drew ?_) | go_size | (simp; omega)))
    clear hW9
    obtain ⟨x0, x1, -, -⟩ := b9
    refine bodyPost_ret (by simp [results, Tryz.results123, go_sem, x0, x1]; try rfl) rfl ?_
    exact ⟨ret_frac (by rw [hN.out]; omega) (by rw [hD.out]) rfl, hB9⟩
  · have hN : Hid (N = _) := hN
    have hD : Hid (D = Q) := hD
    have h2f : (0 ≤ c2) = False := by simp; omega
    have h1f : (0 < c1) = False := by simp; omega
    have h1e : (c1 = 0) = False := by simp; omega
    have h1b : (c1 == 0) = false := by simp; omega
    have xP := low64 P (by omega) (by omega)
    have xQ := low64 Q (by omega) (by omega)
    go_wp2
    generalize hW9 : World.setCell _ _ _ = W9
    have b9 := bRR.out.two (P) (Q)
    rw [hW9] at b9
    have hB9 : Below w.heap.size w W9 := by rw [← hW9]; exact (by repeat' (first | (with_reducible exact Below.refl _ _) | (with_reducible assumption) | (with_reducible refine bdrewN _ ?_) | (with_reducible refine Below.alloc ?_ ?_ _) | (with_reducible refine Below.setCell ?_ ?_ _) | (with_reducible refine Below.drew ?_) | go_size | (simp; omega)))
    clear hW9
    obtain ⟨x0, x1, -, -⟩ := b9
    refine bodyPost_ret (by simp [results, Tryz.results123, go_sem, x0, x1]; try rfl) rfl ?_
    exact ⟨ret_frac (by rw [hN.out]) (by rw [hD.out]) rfl, hB9⟩
  · have hN : Hid (N = _) := hN
    have hD : Hid (D = Q) := hD
    have h2f : (0 ≤ c2) = False := by simp; omega
    have h1f : (0 < c1) = False := by simp; omega
    have h1e : (c1 = 0) = False := by simp; omega
    have h1b : (c1 == 0) = false := by simp; omega
    have xP := low64 P (by omega) (by omega)
    have xQ := low64 Q (by omega) (by omega)
    go_wp2
    generalize hW9 : World.setCell _ _ _ = W9
    have b9 := bRR.out.two (-(P - 1) - 1) (Q)
    rw [hW9] at b9
    have hB9 : Below w.heap.size w W9 := by rw [← hW9]; exact (by repeat' (first | (with_reducible exact Below.refl _ _) | (with_reducible assumption) | (with_reducible refine bdrewN _ ?_) | (with_reducible refine Below.alloc ?_ ?_ _) | (with_reducible refine Below.setCell ?_ ?_ _) | (with_reducible refine Below.drew ?_) | go_size | (simp; omega)))
    clear hW9
    obtain ⟨x0, x1, -, -⟩ := b9
    refine bodyPost_ret (by simp [results, Tryz.results123, go_sem, x0, x1]; try rfl) rfl ?_
    exact ⟨ret_frac (by rw [hN.out]; omega) (by rw [hD.out]) rfl, hB9⟩

theorem rmade_any (b : Bool) (n d : Int) (w : World) (hn : 0 ≤ n) (hn' : n ≤ 170141183460469231731687303715884105728) (hd : 0 < d) (hd' : d ≤ 170141183460469231731687303715884105728) (hbn : b = true → 0 < n) :
    Calls Tryz.prog 123 #[.bool b, .agg #[.int .u64 (g0 n), .int .u64 (g1 n), .int .u64 (g2 n), .int .u64 (g3 n)], .agg #[.int .u64 (g0 d), .int .u64 (g1 d), .int .u64 (g2 d), .int .u64 (g3 d)]] w fun e w' => e = .returned (.tuple #[.agg #[.int .i64 (outN (sg b (n / gc n d)) (d / gc n d)), .int .i64 (outD (sg b (n / gc n d)) (d / gc n d))], .int .i64 (outE (sg b (n / gc n d)) (d / gc n d))]) ∧ Below w.heap.size w w' := by
  obtain ⟨q1, q2, q3, q4, q5, q6, q7⟩ := gc_part n d hn hd
  refine rmade_raw b n d (gc n d) (n / gc n d) (d / gc n d) _ _ _ _ _ w hn hn' hd hd' rfl rfl rfl q1 q2 q3 q4 q5 q6 rfl rfl ?_
  generalize n / gc n d = P at *
  generalize d / gc n d = Q at *
  unfold cmpI
  cases b
  · by_cases a1 : P ≤ 9223372036854775807 ∧ Q ≤ 9223372036854775807
    · obtain ⟨e1, e2, e3⟩ := out_yes (p := P) (q := Q) (by omega) a1.1 a1.2
      have e1' : outN (sg false P) Q = P := e1
      have e2' : outD (sg false P) Q = Q := e2
      have e3' : outE (sg false P) Q = 0 := e3
      rw [e1', e2', e3', if_pos (show P < 9223372036854775808 by omega), if_pos (show Q < 9223372036854775808 by omega)]
      simp; omega
    · obtain ⟨e1, e2, e3⟩ := out_no (p := P) (q := Q) (by omega)
      have e1' : outN (sg false P) Q = 0 := e1
      have e2' : outD (sg false P) Q = 0 := e2
      have e3' : outE (sg false P) Q = 10 := e3
      rw [e1', e2', e3']
      split <;> split <;> (try split) <;> (try split) <;> simp <;> omega
  · have hp := q7 (hbn rfl)
    by_cases a1 : P ≤ 9223372036854775808 ∧ Q ≤ 9223372036854775807
    · obtain ⟨e1, e2, e3⟩ := out_yes (p := -P) (q := Q) (by omega) (by omega) a1.2
      have e1' : outN (sg true P) Q = -P := e1
      have e2' : outD (sg true P) Q = Q := e2
      have e3' : outE (sg true P) Q = 0 := e3
      rw [e1', e2', e3', if_pos (show Q < 9223372036854775808 by omega)]
      split <;> (try split) <;> simp <;> omega
    · obtain ⟨e1, e2, e3⟩ := out_no (p := -P) (q := Q) (by omega)
      have e1' : outN (sg true P) Q = 0 := e1
      have e2' : outD (sg true P) Q = 0 := e2
      have e3' : outE (sg true P) Q = 10 := e3
      rw [e1', e2', e3']
      split <;> split <;> (try split) <;> (try split) <;> simp <;> omega

end Go.Proofs.YtgmmhgbodddadaaGreatDoor

namespace Go.Proofs.YtgmmhgbodddadaaGreatDoor
open Go.RowKit

set_option maxHeartbeats 400000 in
theorem rof_ex (n : Int) (w : World) (h1 : 0 ≤ n) (h2 : n ≤ 18446744073709551615) :
    Calls Tryz.prog 121 #[.int .u64 n] w fun e w' => e = .returned (.agg #[.int .u64 (g0 n), .int .u64 (g1 n), .int .u64 0, .int .u64 0]) ∧ ∃ c1 c2 : Array Value, w' = (w.alloc (.cells c1 198)).alloc (.cells c2 198) := by
  go_enter Tryz.func121, Tryz.ntmps121
  go_wp2
  go_returns
  exact ⟨ret_big (by unfold g0; rfl) (by unfold g1; omega) rfl rfl, _, _, rfl⟩


end Go.Proofs.YtgmmhgbodddadaaGreatDoor

namespace Go.Proofs.YtgmmhgbodddadaaGreatDoor
open Go.RowKit

/-- What made tells, as the least form of a number by its sign and size. -/
theorem rmade_r (b : Bool) (n d : Int) (w : World) (hn : 0 ≤ n) (hn' : n ≤ 170141183460469231731687303715884105728) (hd : 0 < d) (hd' : d ≤ 170141183460469231731687303715884105728) (hbn : b = true → 0 < n) :
    Calls Tryz.prog 123 #[.bool b, .agg #[.int .u64 (g0 n), .int .u64 (g1 n), .int .u64 (g2 n), .int .u64 (g3 n)], .agg #[.int .u64 (g0 d), .int .u64 (g1 d), .int .u64 (g2 d), .int .u64 (g3 d)]] w fun e w' => e = .returned (.tuple #[.agg #[.int .i64 (rN (sg b n) d), .int .i64 (rD (sg b n) d)], .int .i64 (rE (sg b n) d)]) ∧ Below w.heap.size w w' := by
  have h := rmade_any b n d w hn hn' hd hd' hbn
  have e1 := sg_div b n (gc n d) (gc_dvd_left n d hn)
  have e2 : sz (sg b n) = n := by rw [sz_sg, sz_of_nonneg hn]
  unfold rN rD rE
  rw [e2, ← e1]
  exact h

set_option maxHeartbeats 400000 in
theorem rOf_zero (n : Int) (w : World) :
    Calls Tryz.prog 106 #[.int .i64 n, .int .i64 0] w fun e w' => e = .returned (.tuple #[.agg #[.int .i64 0, .int .i64 0], .int .i64 11]) ∧ Below w.heap.size w w' := by
  go_enter Tryz.func106, Tryz.ntmps106
  go_wp2
  go_returns
  exact ⟨rfl, by go_grown⟩

theorem rof_exg (n : Int) (w : World) (h1 : 0 ≤ n) (h2 : n ≤ 18446744073709551615) :
    Calls Tryz.prog 121 #[.int .u64 n] w fun e w' => e = .returned (.agg #[.int .u64 (g0 n), .int .u64 (g1 n), .int .u64 (g2 n), .int .u64 (g3 n)]) ∧ ∃ c1 c2 : Array Value, w' = (w.alloc (.cells c1 198)).alloc (.cells c2 198) := by
  have e2 : g2 n = 0 := by unfold g2; omega
  have e3 : g3 n = 0 := by unfold g3; omega
  rw [e2, e3]; exact rof_ex n w h1 h2

set_option maxRecDepth 100000 in
set_option maxHeartbeats 1000000 in
theorem rOf_raw (b : Bool) (n d : Int) (w : World) (h1 : -9223372036854775808 ≤ n) (h2 : n ≤ 9223372036854775807) (k1 : -9223372036854775808 ≤ d) (k2 : d ≤ 9223372036854775807) (hd : (d == 0) = false) (z1 : 0 ≤ sz n) (z2 : sz n ≤ 9223372036854775808) (z3 : 0 < sz d) (z4 : sz d ≤ 9223372036854775808) (hbn : b = true → 0 < sz n)
    (hc : (n = 0 ∧ b = false) ∨ ((n != 0) = true ∧ b = (decide (n < 0) != decide (d < 0)))) :
    Calls Tryz.prog 106 #[.int .i64 n, .int .i64 d] w fun e w' => e = .returned (.tuple #[.agg #[.int .i64 (rN (sg b (sz n)) (sz d)), .int .i64 (rD (sg b (sz n)) (sz d))], .int .i64 (rE (sg b (sz n)) (sz d))]) ∧ Below w.heap.size w w' := by
  have HM : Hid (∀ W : World, Calls Tryz.prog 123 #[.bool b, .agg #[.int .u64 (g0 (sz n)), .int .u64 (g1 (sz n)), .int .u64 (g2 (sz n)), .int .u64 (g3 (sz n))], .agg #[.int .u64 (g0 (sz d)), .int .u64 (g1 (sz d)), .int .u64 (g2 (sz d)), .int .u64 (g3 (sz d))]] W fun e w' => e = .returned (.tuple #[.agg #[.int .i64 (rN (sg b (sz n)) (sz d)), .int .i64 (rD (sg b (sz n)) (sz d))], .int .i64 (rE (sg b (sz n)) (sz d))]) ∧ Below W.heap.size W w') :=
    fun W => rmade_r b (sz n) (sz d) W z1 (by omega) z3 (by omega) hbn
  clear hbn
  rcases hc with ⟨hn, hb⟩ | ⟨hn, hb⟩
  · subst hn; subst hb
    go_enter Tryz.func106, Tryz.ntmps106
    go_wp2_with (first
      | (go_at_call 122; refine (rsize_any _ _ (by omega) (by omega)).mono ?_; rintro e w' ⟨rfl, rfl⟩)
      | (go_at_call 121; refine (rof_exg _ _ (by omega) (by omega)).mono ?_; rintro e w' ⟨rfl, c1, c2, rfl⟩)
      | (go_at_call 123; refine (HM.out _).mono ?_; rintro e w3 ⟨rfl, hb⟩; obtain ⟨hc, hf, hz, hB⟩ := bf (w := w) (by go_grown) hb; have bR : Hid (Blk2 w3 (w.heap.size) 0 0) := Blk2.below (by constructor <;> simp (maxDischargeDepth := 12) [go_sem]) hb (by go_size)))
    generalize hW9 : World.setCell _ _ _ = W9
    have b9 := bR.out.two (rN (sg false (sz 0)) (sz d)) (rD (sg false (sz 0)) (sz d))
    rw [hW9] at b9
    have hB9 : Below w.heap.size w W9 := by rw [← hW9]; exact Below.setCell (Below.setCell hB (by simp) _) (by simp) _
    clear hW9 hc hf hz hB hb bR
    obtain ⟨x0, x1, -, -⟩ := b9
    refine bodyPost_ret (by simp [results, Tryz.results106, go_sem, x0, x1]; try rfl) rfl ?_
    exact ⟨rfl, hB9⟩
  · have hb' : b = !(decide (n < 0) == decide (d < 0)) := hb
    subst hb'
    clear hb
    go_enter Tryz.func106, Tryz.ntmps106
    go_wp2_with (first
      | (go_at_call 122; refine (rsize_any _ _ (by omega) (by omega)).mono ?_; rintro e w' ⟨rfl, rfl⟩)
      | (go_at_call 121; refine (rof_exg _ _ (by omega) (by omega)).mono ?_; rintro e w' ⟨rfl, c1, c2, rfl⟩)
      | (go_at_call 123; refine (HM.out _).mono ?_; rintro e w3 ⟨rfl, hb⟩; obtain ⟨hc, hf, hz, hB⟩ := bf (w := w) (by go_grown) hb; have bR : Hid (Blk2 w3 (w.heap.size) 0 0) := Blk2.below (by constructor <;> simp (maxDischargeDepth := 12) [go_sem]) hb (by go_size)))
    generalize hW9 : World.setCell _ _ _ = W9
    have b9 := bR.out.two (rN (sg (!(decide (n < 0) == decide (d < 0))) (sz n)) (sz d)) (rD (sg (!(decide (n < 0) == decide (d < 0))) (sz n)) (sz d))
    rw [hW9] at b9
    have hB9 : Below w.heap.size w W9 := by rw [← hW9]; exact Below.setCell (Below.setCell hB (by simp) _) (by simp) _
    clear hW9 hc hf hz hB hb bR
    obtain ⟨x0, x1, -, -⟩ := b9
    refine bodyPost_ret (by simp [results, Tryz.results106, go_sem, x0, x1]; try rfl) rfl ?_
    exact ⟨rfl, hB9⟩

theorem rOf_all (n d : Int) (w : World) (h1 : -9223372036854775808 ≤ n) (h2 : n ≤ 9223372036854775807) (k1 : -9223372036854775808 ≤ d) (k2 : d ≤ 9223372036854775807) :
    Calls Tryz.prog 106 #[.int .i64 n, .int .i64 d] w fun e w' => e = .returned (.tuple #[.agg #[.int .i64 (oN n d), .int .i64 (oD n d)], .int .i64 (oE n d)]) ∧ Below w.heap.size w w' := by
  unfold oN oD oE
  by_cases h : d = 0
  · subst h; simpa using rOf_zero n w
  · rw [if_neg h, if_neg h, if_neg h]
    have z3 : 0 < sz d := by unfold sz; omega
    by_cases hn : n = 0
    · have e : ofP n d = sg false (sz n) := by subst hn; unfold ofP sg sz; simp
      rw [e]
      exact rOf_raw false n d w h1 h2 k1 k2 (by simpa using h) (sz_nonneg n) (sz_le h1 h2) z3 (sz_le k1 k2) (by simp) (Or.inl ⟨hn, rfl⟩)
    · have e : ofP n d = sg (decide (n < 0) != decide (d < 0)) (sz n) := (sg_sz n (decide (d < 0))).symm
      rw [e]
      exact rOf_raw _ n d w h1 h2 k1 k2 (by simpa using h) (sz_nonneg n) (sz_le h1 h2) z3 (sz_le k1 k2) (fun _ => by unfold sz; omega) (Or.inr ⟨by simpa using hn, rfl⟩)

theorem may_neg {n d : Int} (h : d ≤ 0) : mayB n d = false := by
  cases e : mayB n d
  · rfl
  · have := (may_of e).1; omega

set_option maxHeartbeats 400000 in
theorem rmay_any (n d : Int) (w : World) (h1 : -9223372036854775808 ≤ n) (h2 : n ≤ 9223372036854775807) (g1 : -9223372036854775808 ≤ d) (g2 : d ≤ 9223372036854775807) :
    Calls Tryz.prog 78 #[.agg #[.int .i64 n, .int .i64 d]] w fun e w' => e = .returned (.bool (mayB n d)) ∧ Below w.heap.size w w' := by
  by_cases hd : d ≤ 0
  · rw [may_neg hd]
    go_enter Tryz.func78, Tryz.ntmps78
    go_wp2
    go_ret
    exact ⟨rfl, by go_grown⟩
  · have hd2 : (d ≤ 0) = False := by simp; omega
    by_cases a1 : oE n d = 0
    · go_enter Tryz.func78, Tryz.ntmps78
      go_wp2_with (first
        | (go_at_call 106; refine (rOf_all _ _ _ h1 h2 g1 g2).mono ?_; rintro e w1 ⟨rfl, hb⟩; obtain ⟨hc, hf, hz, hB⟩ := bf (w := w) (by go_grown) hb; simp only [World.size_alloc] at hz; have z0 : w.heap.size < w1.heap.size := by omega))
      all_goals
        go_ret
        exact ⟨by simp [mayB, *], by go_grown⟩
    · have a2 : (oE n d == 0) = false := by simpa using a1
      go_enter Tryz.func78, Tryz.ntmps78
      go_wp2_with (first
        | (go_at_call 106; refine (rOf_all _ _ _ h1 h2 g1 g2).mono ?_; rintro e w1 ⟨rfl, hb⟩; obtain ⟨hc, hf, hz, hB⟩ := bf (w := w) (by go_grown) hb; simp only [World.size_alloc] at hz; have z0 : w.heap.size < w1.heap.size := by omega))
      all_goals
        go_ret
        exact ⟨by simp [mayB, a2], by go_grown⟩

end Go.Proofs.YtgmmhgbodddadaaGreatDoor

namespace Go.Proofs.YtgmmhgbodddadaaGreatDoor
open Go.RowKit Go.Shelf

theorem size_empty {s : ByteArray} (h : s.toList.isEmpty = true) : s.size = 0 := by
  rw [ByteArray.toList_eq] at h
  cases hl : s.data.toList with
  | nil =>
    have h3 : s.data.toList.length = 0 := by rw [hl]; rfl
    exact h3
  | cons a b => rw [hl] at h; exact Bool.noConfusion h

set_option maxRecDepth 100000 in
set_option maxHeartbeats 400000 in
theorem rfrac_any (k n d : Int) (s : ByteArray) (w : World) :
    Calls Tryz.prog 79 #[.agg #[.int .i64 k, .int .i64 n, .int .i64 d, .string s]] w fun e w' => e = .returned (.agg #[.int .i64 n, .int .i64 d]) ∧ Below w.heap.size w w' := by
  go_enter Tryz.func79, Tryz.ntmps79
  go_wp2
  go_returns
  exact ⟨rfl, by go_grown⟩

set_option maxRecDepth 100000 in
set_option maxHeartbeats 1000000 in
theorem rcheck_1 (n d : Int) (s : ByteArray) (w : World) :
    Calls Tryz.prog 57 #[.agg #[.int .i64 1, .int .i64 n, .int .i64 d, .string s]] w fun e w' => e = .returned (.int .i64 (chk 1 n d s)) ∧ Below w.heap.size w w' := by
  cases hd : d == 0
  · have e0 : chk 1 n d s = 20 := by simp [chk, pureB, hd]
    have d1 : ¬ d = 0 := by simpa using hd
    have d2 : (d != 0) = true := by simpa using d1
    rw [e0]
    go_enter Tryz.func57, Tryz.ntmps57
    go_wp2
    go_ret
    exact ⟨rfl, by go_grown⟩
  · have hd' : d = 0 := by simpa using hd
    subst hd'
    cases hs : s.toList.isEmpty
    · have e0 : chk 1 n 0 s = 20 := by simp [chk, pureB, hs]
      rw [e0]
      go_enter Tryz.func57, Tryz.ntmps57
      go_wp2
      go_ret
      exact ⟨rfl, by go_grown⟩
    · have e0 : chk 1 n 0 s = 0 := by have := size_empty hs; simp [chk, pureB, hs, this]
      rw [e0]
      go_enter Tryz.func57, Tryz.ntmps57
      go_wp2
      go_ret
      exact ⟨rfl, by go_grown⟩

set_option maxRecDepth 100000 in
set_option maxHeartbeats 1000000 in
theorem rcheck_2 (n d : Int) (s : ByteArray) (w : World) (h1 : -9223372036854775808 ≤ n) (h2 : n ≤ 9223372036854775807) (g1 : -9223372036854775808 ≤ d) (g2 : d ≤ 9223372036854775807) :
    Calls Tryz.prog 57 #[.agg #[.int .i64 2, .int .i64 n, .int .i64 d, .string s]] w fun e w' => e = .returned (.int .i64 (chk 2 n d s)) ∧ Below w.heap.size w w' := by
  cases hs : s.toList.isEmpty
  · have e0 : chk 2 n d s = 20 := by simp [chk, pureB, hs]
    rw [e0]
    go_enter Tryz.func57, Tryz.ntmps57
    go_wp2_with fail
    refine (rfrac_any 2 n d s _).mono ?_
    rintro e w1 ⟨rfl, hb1⟩
    go_wp2_with fail
    refine (rmay_any n d _ h1 h2 g1 g2).mono ?_
    rintro e w2 ⟨rfl, hb2⟩
    obtain ⟨hc, hf, hz, hB⟩ := bf (w := w) (by go_grown) (hb1.trans (hb2.mono hb1.size))
    simp only [World.size_alloc] at hz
    have z0 : w.heap.size < w2.heap.size := by omega
    go_wp2
    go_ret
    exact ⟨rfl, hB⟩
  · have z := size_empty hs
    cases hm : mayB n d
    · have e0 : chk 2 n d s = 20 := by simp [chk, pureB, hm]
      rw [e0]
      go_enter Tryz.func57, Tryz.ntmps57
      go_wp2_with fail
      refine (rfrac_any 2 n d s _).mono ?_
      rintro e w1 ⟨rfl, hb1⟩
      go_wp2_with fail
      refine (rmay_any n d _ h1 h2 g1 g2).mono ?_
      rintro e w2 ⟨rfl, hb2⟩
      obtain ⟨hc, hf, hz, hB⟩ := bf (w := w) (by go_grown) (hb1.trans (hb2.mono hb1.size))
      simp only [World.size_alloc] at hz
      have z0 : w.heap.size < w2.heap.size := by omega
      rw [hm]
      go_wp2
      go_ret
      exact ⟨rfl, hB⟩
    · have e0 : chk 2 n d s = 0 := by simp [chk, pureB, hm, hs, z]
      rw [e0]
      go_enter Tryz.func57, Tryz.ntmps57
      go_wp2_with fail
      refine (rfrac_any 2 n d s _).mono ?_
      rintro e w1 ⟨rfl, hb1⟩
      go_wp2_with fail
      refine (rmay_any n d _ h1 h2 g1 g2).mono ?_
      rintro e w2 ⟨rfl, hb2⟩
      obtain ⟨hc, hf, hz, hB⟩ := bf (w := w) (by go_grown) (hb1.trans (hb2.mono hb1.size))
      simp only [World.size_alloc] at hz
      have z0 : w.heap.size < w2.heap.size := by omega
      rw [hm]
      go_wp2
      go_ret
      exact ⟨rfl, hB⟩

set_option maxRecDepth 100000 in
set_option maxHeartbeats 1000000 in
theorem rcheck_3 (n d : Int) (s : ByteArray) (w : World) :
    Calls Tryz.prog 57 #[.agg #[.int .i64 3, .int .i64 n, .int .i64 d, .string s]] w fun e w' => e = .returned (.int .i64 (chk 3 n d s)) ∧ Below w.heap.size w w' := by
  cases hn : n == 0
  · have e0 : chk 3 n d s = 20 := by simp [chk, pureB, hn]
    have d1 : ¬ n = 0 := by simpa using hn
    have d2 : (n != 0) = true := by simpa using d1
    rw [e0]
    go_enter Tryz.func57, Tryz.ntmps57
    go_wp2
    go_ret
    exact ⟨rfl, by go_grown⟩
  · have hn' : n = 0 := by simpa using hn
    subst hn'
    cases hd : d == 0
    · have e0 : chk 3 0 d s = 20 := by simp [chk, pureB, hd]
      have d1 : ¬ d = 0 := by simpa using hd
      have d2 : (d != 0) = true := by simpa using d1
      rw [e0]
      go_enter Tryz.func57, Tryz.ntmps57
      go_wp2
      go_ret
      exact ⟨rfl, by go_grown⟩
    · have hd' : d = 0 := by simpa using hd
      subst hd'
      by_cases hl : 64 < s.size
      · have e0 : chk 3 0 0 s = 2 := by simp [chk, pureB, hl]
        rw [e0]
        have hl' : (64 : Int) < s.size := by omega
        go_enter Tryz.func57, Tryz.ntmps57
        go_wp2
        go_ret
        exact ⟨rfl, by go_grown⟩
      · have e0 : chk 3 0 0 s = 0 := by simp [chk, pureB, hl]
        rw [e0]
        have hl' : ((64 : Int) < s.size) = False := by simp; omega
        go_enter Tryz.func57, Tryz.ntmps57
        go_wp2
        go_ret
        exact ⟨rfl, by go_grown⟩

set_option maxRecDepth 100000 in
set_option maxHeartbeats 1000000 in
theorem rcheck_any (k n d : Int) (s : ByteArray) (w : World) (h1 : -9223372036854775808 ≤ n) (h2 : n ≤ 9223372036854775807) (g1 : -9223372036854775808 ≤ d) (g2 : d ≤ 9223372036854775807) :
    Calls Tryz.prog 57 #[.agg #[.int .i64 k, .int .i64 n, .int .i64 d, .string s]] w fun e w' => e = .returned (.int .i64 (chk k n d s)) ∧ Below w.heap.size w w' := by
  by_cases k1 : k = 1
  · subst k1; exact rcheck_1 n d s w
  · by_cases k2 : k = 2
    · subst k2; exact rcheck_2 n d s w h1 h2 g1 g2
    · by_cases k3 : k = 3
      · subst k3; exact rcheck_3 n d s w
      · have e0 : chk k n d s = 20 := by simp [chk, pureB, k1, k2, k3]
        rw [e0]
        have k1' : (k == 1) = false := by simpa using k1
        have k2' : (k == 2) = false := by simpa using k2
        have k3' : (k == 3) = false := by simpa using k3
        go_enter Tryz.func57, Tryz.ntmps57
        go_wp2
        go_ret
        exact ⟨rfl, by go_grown⟩

end Go.Proofs.YtgmmhgbodddadaaGreatDoor

namespace Go.Proofs.YtgmmhgbodddadaaGreatDoor
open Go.RowKit Go.Shelf

/-- Are two values the same? -/
def sameB (k n d : Int) (s : ByteArray) (k' n' d' : Int) (s' : ByteArray) : Bool := k == k' && (n == n' && (d == d' && s.toList == s'.toList))

end Go.Proofs.YtgmmhgbodddadaaGreatDoor

namespace Go.Proofs.YtgmmhgbodddadaaGreatDoor
open Go.RowKit Go.Shelf

end Go.Proofs.YtgmmhgbodddadaaGreatDoor

namespace Go.Proofs.YtgmmhgbodddadaaGreatDoor
open Go.RowKit Go.Shelf
set_option linter.unusedVariables false

/-- How two values stand to one another. -/
def vcmp (k n d : Int) (s : ByteArray) (k' n' d' : Int) (s' : ByteArray) : Int :=
  if chk k n d s = 0 then (if chk k' n' d' s' = 0 then (if k = k' then (if k = 1 then Lib.compareInt n n' else if k = 2 then cmpV n d n' d' else Lib.compareBytes s.data.toList s'.data.toList) else Lib.compareInt k k') else 0) else 0
theorem chk_kind {k n d : Int} {s : ByteArray} (h : chk k n d s = 0) : k = 1 ∨ k = 2 ∨ k = 3 := by
  by_cases k1 : k = 1
  · exact Or.inl k1
  · by_cases k2 : k = 2
    · exact Or.inr (Or.inl k2)
    · by_cases k3 : k = 3
      · exact Or.inr (Or.inr k3)
      · exfalso
        have e0 : chk k n d s = 20 := by simp [chk, pureB, k1, k2, k3]
        omega

end Go.Proofs.YtgmmhgbodddadaaGreatDoor

namespace Go.Proofs.YtgmmhgbodddadaaGreatDoor
open Go.RowKit Go.Shelf
set_option linter.unusedVariables false

theorem ocmp_yes {a b c d : Int} (h1 : mayB a b = true) (h2 : mayB c d = true) : cmpV a b c d = if a * d < c * b then -1 else if c * b < a * d then 1 else 0 := by simp [cmpV, both, h1, h2]
theorem ocmp_cases {a b c d : Int} (h1 : mayB a b = true) (h2 : mayB c d = true) : (cmpV a b c d = -1 ∧ a * d < c * b) ∨ (cmpV a b c d = 0 ∧ a * d = c * b) ∨ (cmpV a b c d = 1 ∧ c * b < a * d) := by
  rw [ocmp_yes h1 h2]
  by_cases h3 : a * d < c * b
  · exact Or.inl ⟨if_pos h3, h3⟩
  · rw [if_neg h3]
    by_cases h4 : c * b < a * d
    · exact Or.inr (Or.inr ⟨if_pos h4, h4⟩)
    · exact Or.inr (Or.inl ⟨if_neg h4, by omega⟩)

theorem oon_law {a b c d u v : Int} (h1 : mayB a b = true) (h2 : mayB c d = true) (h3 : mayB u v = true) (hab : cmpV a b c d ≤ 0) (hbc : cmpV c d u v ≤ 0) :
    cmpV a b u v ≤ 0 ∧ ((cmpV a b c d = 0 ∧ cmpV c d u v = 0) ↔ cmpV a b u v = 0) := by
  obtain ⟨pb, _⟩ := may_of h1
  obtain ⟨pd, _⟩ := may_of h2
  obtain ⟨pv, _⟩ := may_of h3
  have k1 : a * d ≤ c * b := by rcases ocmp_cases h1 h2 with ⟨e, h⟩ | ⟨e, h⟩ | ⟨e, h⟩ <;> omega
  have k2 : c * v ≤ u * d := by rcases ocmp_cases h2 h3 with ⟨e, h⟩ | ⟨e, h⟩ | ⟨e, h⟩ <;> omega
  have l1 := Int.mul_le_mul_of_nonneg_right k1 (Int.le_of_lt pv)
  have l2 := Int.mul_le_mul_of_nonneg_right k2 (Int.le_of_lt pb)
  have e1 : c * b * v = c * v * b := by grind
  have e2 : a * d * v = a * v * d := by grind
  have e3 : u * d * b = u * b * d := by grind
  have k3 : a * v * d ≤ u * b * d := by omega
  have k4 : a * v ≤ u * b := Int.le_of_mul_le_mul_right k3 pd
  refine ⟨?_, ?_, ?_⟩
  · rcases ocmp_cases h1 h3 with ⟨e, h⟩ | ⟨e, h⟩ | ⟨e, h⟩ <;> omega
  · rintro ⟨z1, z2⟩
    have m1 : a * d = c * b := by rcases ocmp_cases h1 h2 with ⟨e, h⟩ | ⟨e, h⟩ | ⟨e, h⟩ <;> omega
    have m2 : c * v = u * d := by rcases ocmp_cases h2 h3 with ⟨e, h⟩ | ⟨e, h⟩ | ⟨e, h⟩ <;> omega
    have m3 : a * v * d = u * b * d := by grind
    have m4 : a * v = u * b := Int.eq_of_mul_eq_mul_right (by omega) m3
    rcases ocmp_cases h1 h3 with ⟨e, h⟩ | ⟨e, h⟩ | ⟨e, h⟩ <;> omega
  · intro z
    have m : a * v = u * b := by rcases ocmp_cases h1 h3 with ⟨e, h⟩ | ⟨e, h⟩ | ⟨e, h⟩ <;> omega
    have m3 : a * v * d = u * b * d := by rw [m]
    have n1 : a * d * v = c * b * v := by omega
    have n2 : c * v * b = u * d * b := by omega
    have n3 : a * d = c * b := Int.eq_of_mul_eq_mul_right (by omega) n1
    have n4 : c * v = u * d := Int.eq_of_mul_eq_mul_right (by omega) n2
    constructor
    · rcases ocmp_cases h1 h2 with ⟨e, h⟩ | ⟨e, h⟩ | ⟨e, h⟩ <;> omega
    · rcases ocmp_cases h2 h3 with ⟨e, h⟩ | ⟨e, h⟩ | ⟨e, h⟩ <;> omega

/-- Two fractions in their least form that are worth the same are the same. -/
theorem ozero_law {a b c d : Int} (h1 : mayB a b = true) (h2 : mayB c d = true) : cmpV a b c d = 0 ↔ a = c ∧ b = d := by
  obtain ⟨pb, cb⟩ := may_of h1
  obtain ⟨pd, cd⟩ := may_of h2
  constructor
  · intro h
    have m : a * d = c * b := by rcases ocmp_cases h1 h2 with ⟨e, h⟩ | ⟨e, h⟩ | ⟨e, h⟩ <;> omega
    have mb : a.natAbs * d.toNat = c.natAbs * b.toNat := by
      have := congrArg Int.natAbs m
      rw [Int.natAbs_mul, Int.natAbs_mul] at this
      rwa [show d.natAbs = d.toNat by omega, show b.natAbs = b.toNat by omega] at this
    have d1 : b.toNat ∣ d.toNat := cb.symm.dvd_of_dvd_mul_left ⟨c.natAbs, by rw [mb, Nat.mul_comm]⟩
    have d2 : d.toNat ∣ b.toNat := cd.symm.dvd_of_dvd_mul_left ⟨a.natAbs, by rw [← mb, Nat.mul_comm]⟩
    have e : b.toNat = d.toNat := Nat.dvd_antisymm d1 d2
    have e' : b = d := by omega
    subst e'
    exact ⟨Int.eq_of_mul_eq_mul_right (by omega) m, rfl⟩
  · rintro ⟨rfl, rfl⟩
    rcases ocmp_cases h1 h2 with ⟨e, h⟩ | ⟨e, h⟩ | ⟨e, h⟩ <;> omega

theorem cb_range : ∀ (a b : List UInt8), -1 ≤ Lib.compareBytes a b ∧ Lib.compareBytes a b ≤ 1
  | [], [] => by simp [Lib.compareBytes]
  | [], _ :: _ => by simp [Lib.compareBytes]
  | _ :: _, [] => by simp [Lib.compareBytes]
  | x :: a, y :: b => by
    have ih := cb_range a b
    unfold Lib.compareBytes
    split
    · omega
    · split <;> omega
theorem cb_zero : ∀ (a b : List UInt8), Lib.compareBytes a b = 0 ↔ a = b
  | [], [] => by simp [Lib.compareBytes]
  | [], _ :: _ => by simp [Lib.compareBytes]
  | _ :: _, [] => by simp [Lib.compareBytes]
  | x :: a, y :: b => by
    have ih := cb_zero a b
    unfold Lib.compareBytes
    by_cases h : x < y
    · have h' : x ≠ y := UInt8.ne_of_lt h
      simp [h, h']
    · by_cases h2 : y < x
      · have h' : x ≠ y := (UInt8.ne_of_lt h2).symm
        simp [h, h2, h']
      · have e : x = y := UInt8.le_antisymm (UInt8.not_lt.1 h2) (UInt8.not_lt.1 h)
        simp [e, ih]
theorem cb_on : ∀ (a b c : List UInt8), Lib.compareBytes a b ≤ 0 → Lib.compareBytes b c ≤ 0 → Lib.compareBytes a c ≤ 0 ∧ ((Lib.compareBytes a b = 0 ∧ Lib.compareBytes b c = 0) ↔ Lib.compareBytes a c = 0)
  | [], [], [] => by simp [Lib.compareBytes]
  | [], [], _ :: _ => by simp [Lib.compareBytes]
  | [], _ :: _, [] => by simp [Lib.compareBytes]
  | _ :: _, [], _ => by simp [Lib.compareBytes]
  | _ :: _, _ :: _, [] => by simp [Lib.compareBytes]
  | [], y :: b, z :: c => by simp [Lib.compareBytes]
  | x :: a, y :: b, z :: c => by
    have ih := cb_on a b c
    unfold Lib.compareBytes
    rcases Nat.lt_trichotomy x.toNat y.toNat with h | h | h
    · have h1 : x < y := UInt8.lt_iff_toNat_lt.2 h
      rcases Nat.lt_trichotomy y.toNat z.toNat with g | g | g
      · have g1 : y < z := UInt8.lt_iff_toNat_lt.2 g
        have k1 : x < z := UInt8.lt_iff_toNat_lt.2 (by omega)
        simp [h1, g1, k1]
      · have g1 : y = z := UInt8.toNat_inj.1 g
        subst g1
        simp [h1]
      · have g1 : z < y := UInt8.lt_iff_toNat_lt.2 g
        have g2 : ¬ y < z := UInt8.lt_asymm g1
        simp [g1, g2]
    · have h1 : x = y := UInt8.toNat_inj.1 h
      subst h1
      have hi : ¬ x < x := UInt8.lt_irrefl x
      rcases Nat.lt_trichotomy x.toNat z.toNat with g | g | g
      · have g1 : x < z := UInt8.lt_iff_toNat_lt.2 g
        simp [hi, g1]
      · have g1 : x = z := UInt8.toNat_inj.1 g
        subst g1
        simp only [hi, if_false]
        exact ih
      · have g1 : z < x := UInt8.lt_iff_toNat_lt.2 g
        have g2 : ¬ x < z := UInt8.lt_asymm g1
        simp [g1, g2]
    · have h1 : y < x := UInt8.lt_iff_toNat_lt.2 h
      have h2 : ¬ x < y := UInt8.lt_asymm h1
      simp [h1, h2]

theorem toList_data (s : ByteArray) : s.toList = s.data.toList := by simp [ByteArray.toList_eq]

theorem chk1_of {n d : Int} {s : ByteArray} (h : chk 1 n d s = 0) : d = 0 ∧ s.toList = [] := by
  simp only [chk, pureB, if_true] at h
  split at h
  · omega
  · rename_i g
    simp at g
    exact g
theorem chk2_of {n d : Int} {s : ByteArray} (h : chk 2 n d s = 0) : mayB n d = true ∧ s.toList = [] := by
  simp only [chk, pureB, Int.reduceEq, if_false, if_true] at h
  split at h
  · omega
  · rename_i g
    simp at g
    exact g
theorem chk3_of {n d : Int} {s : ByteArray} (h : chk 3 n d s = 0) : n = 0 ∧ d = 0 := by
  simp only [chk, pureB, Int.reduceEq, if_false, if_true] at h
  split at h
  · omega
  · rename_i g
    simp at g
    exact g

/-- A value, as four plain things. -/
structure Val where
  k : Int
  n : Int
  d : Int
  s : ByteArray
/-- May a value be at all: its numbers fit 64 bits. -/
structure Val.Fits (x : Val) : Prop where
  n1 : -9223372036854775808 ≤ x.n
  n2 : x.n ≤ 9223372036854775807
  d1 : -9223372036854775808 ≤ x.d
  d2 : x.d ≤ 9223372036854775807
def Val.may (x : Val) : Int := chk x.k x.n x.d x.s
def Val.cmp (x y : Val) : Int := vcmp x.k x.n x.d x.s y.k y.n y.d y.s
def Val.same (x y : Val) : Bool := sameB x.k x.n x.d x.s y.k y.n y.d y.s

theorem Val.cmp_ok {x y : Val} (h : x.may = 0) (g : y.may = 0) : x.cmp y = if x.k = y.k then (if x.k = 1 then Lib.compareInt x.n y.n else if x.k = 2 then cmpV x.n x.d y.n y.d else Lib.compareBytes x.s.toList y.s.toList) else Lib.compareInt x.k y.k := by
  unfold Val.may at h g
  unfold Val.cmp vcmp
  rw [if_pos h, if_pos g, toList_data, toList_data]

theorem ci_cases (a b : Int) : (Lib.compareInt a b = -1 ∧ a < b) ∨ (Lib.compareInt a b = 0 ∧ a = b) ∨ (Lib.compareInt a b = 1 ∧ b < a) := by
  unfold Lib.compareInt
  rcases Int.lt_trichotomy a b with h | h | h
  · exact Or.inl ⟨if_pos h, h⟩
  · subst h; simp
  · exact Or.inr (Or.inr ⟨by rw [if_neg (by omega), if_pos h], h⟩)

theorem Val.cases {x : Val} (h : x.may = 0) : (x.k = 1 ∧ x.d = 0 ∧ x.s.toList = []) ∨ (x.k = 2 ∧ mayB x.n x.d = true ∧ x.s.toList = []) ∨ (x.k = 3 ∧ x.n = 0 ∧ x.d = 0) := by
  unfold Val.may at h
  rcases chk_kind h with e | e | e
  · rw [e] at h; exact Or.inl ⟨e, chk1_of h⟩
  · rw [e] at h; exact Or.inr (Or.inl ⟨e, chk2_of h⟩)
  · rw [e] at h; exact Or.inr (Or.inr ⟨e, chk3_of h⟩)

theorem Val.range (x y : Val) : -1 ≤ x.cmp y ∧ x.cmp y ≤ 1 := by
  unfold Val.cmp vcmp
  split
  · split
    · split
      · split
        · rcases ci_cases x.n y.n with h | h | h <;> omega
        · split
          · unfold cmpV
            split
            · split
              · omega
              · split <;> omega
            · omega
          · exact cb_range _ _
      · rcases ci_cases x.k y.k with h | h | h <;> omega
    · omega
  · omega

theorem Val.zero {x y : Val} (h : x.may = 0) (g : y.may = 0) : x.cmp y = 0 ↔ x.same y = true := by
  rw [Val.cmp_ok h g]
  unfold Val.same sameB
  by_cases e : x.k = y.k
  · rw [if_pos e]
    rcases Val.cases h with ⟨a, p, q⟩ | ⟨a, p, q⟩ | ⟨a, p, q⟩ <;> rcases Val.cases g with ⟨b, p', q'⟩ | ⟨b, p', q'⟩ | ⟨b, p', q'⟩ <;> try omega
    · rw [if_pos a, a, b, p, p', q, q']
      rcases ci_cases x.n y.n with h | h | h <;> simp <;> omega
    · rw [a, b, q, q']
      simp only [Int.reduceEq, if_false, if_true]
      rw [ozero_law p p']
      simp
    · rw [a, b, p, p', q, q']
      simp only [Int.reduceEq, if_false]
      rw [cb_zero]
      simp
  · rw [if_neg e]
    rcases ci_cases x.k y.k with h | h | h
    · simp [e, h.1]
    · exact absurd h.2 e
    · simp [e, h.1]

theorem Val.on {x y z : Val} (h : x.may = 0) (g : y.may = 0) (f : z.may = 0) (a : x.cmp y ≤ 0) (b : y.cmp z ≤ 0) : x.cmp z ≤ 0 ∧ ((x.cmp y = 0 ∧ y.cmp z = 0) ↔ x.cmp z = 0) := by
  rw [Val.cmp_ok h g] at a ⊢
  rw [Val.cmp_ok g f] at b ⊢
  rw [Val.cmp_ok h f]
  by_cases e1 : x.k = y.k
  · rw [if_pos e1] at a ⊢
    by_cases e2 : y.k = z.k
    · rw [if_pos e2] at b ⊢
      rw [if_pos (e1.trans e2)]
      rcases Val.cases h with ⟨k1, p, q⟩ | ⟨k1, p, q⟩ | ⟨k1, p, q⟩ <;> rcases Val.cases g with ⟨k2, p', q'⟩ | ⟨k2, p', q'⟩ | ⟨k2, p', q'⟩ <;> try omega
      · rw [if_pos k1] at a ⊢
        rw [if_pos k2] at b ⊢
        rw [if_pos k1]
        rcases ci_cases x.n y.n with h | h | h <;> rcases ci_cases y.n z.n with h' | h' | h' <;> rcases ci_cases x.n z.n with h'' | h'' | h'' <;> omega
      · rcases Val.cases f with ⟨k3, p'', q''⟩ | ⟨k3, p'', q''⟩ | ⟨k3, p'', q''⟩
        · omega
        · rw [k1] at a ⊢
          rw [k2] at b ⊢
          exact oon_law p p' p'' a b
        · omega
      · rw [k1] at a ⊢
        rw [k2] at b ⊢
        exact cb_on _ _ _ a b
    · rw [if_neg e2] at b ⊢
      rw [if_neg (by omega)]
      rw [e1]
      rcases ci_cases y.k z.k with h | h | h <;> omega
  · rw [if_neg e1] at a ⊢
    by_cases e2 : y.k = z.k
    · rw [if_neg (by omega), ← e2]
      rcases ci_cases x.k y.k with h | h | h <;> omega
    · rw [if_neg e2] at b ⊢
      rcases ci_cases x.k y.k with h | h | h <;> rcases ci_cases y.k z.k with h' | h' | h' <;> try omega
      rw [if_neg (by omega)]
      rcases ci_cases x.k z.k with h'' | h'' | h'' <;> omega

end Go.Proofs.YtgmmhgbodddadaaGreatDoor

namespace Go.Proofs.YtgmmhgbodddadaaGreatDoor
open Go.RowKit Go.Shelf
set_option linter.unusedVariables false

/-- A row's values lie at a place. -/
def Lies (w : World) (b off : Nat) (xs : List Val) : Prop :=
  ∀ i (h : i < xs.length), w.cell? ⟨b, off + i * 4, none⟩ = some (.int .i64 xs[i].k) ∧ w.cell? ⟨b, off + i * 4 + 1, none⟩ = some (.int .i64 xs[i].n) ∧ w.cell? ⟨b, off + i * 4 + 2, none⟩ = some (.int .i64 xs[i].d) ∧ w.cell? ⟨b, off + i * 4 + 3, none⟩ = some (.string xs[i].s)
theorem Lies.below {w w' : World} {b off : Nat} {xs : List Val} (h : Lies w b off xs) {B : Nat} (hb : Below B w w') (hlt : b < B) : Lies w' b off xs := fun i hi => by
  obtain ⟨c0, c1, c2, c3⟩ := h i hi
  exact ⟨(hb.cell (p := ⟨b, _, none⟩) hlt).trans c0, (hb.cell (p := ⟨b, _, none⟩) hlt).trans c1, (hb.cell (p := ⟨b, _, none⟩) hlt).trans c2, (hb.cell (p := ⟨b, _, none⟩) hlt).trans c3⟩

end Go.Proofs.YtgmmhgbodddadaaGreatDoor

namespace Go.Proofs.YtgmmhgbodddadaaGreatDoor
open Go.RowKit

end Go.Proofs.YtgmmhgbodddadaaGreatDoor

namespace Go.Proofs.YtgmmhgbodddadaaGreatDoor
open Go.RowKit Go.Shelf
set_option linter.unusedVariables false

end Go.Proofs.YtgmmhgbodddadaaGreatDoor

namespace Go.Proofs.YtgmmhgbodddadaaGreatDoor
open Go.RowKit Go.Shelf
set_option linter.unusedVariables false

end Go.Proofs.YtgmmhgbodddadaaGreatDoor

namespace Go.Proofs.YtgmmhgbodddadaaGreatDoor
open Go.RowKit Go.Shelf
set_option linter.unusedVariables false

theorem inV : (Tryz.prog.info? 50).map (fun i => (i.zero, i.size, i.bytes)) = some (some (.agg #[.int .i64 0, .int .i64 0, .int .i64 0, .string ⟨#[]⟩]), 4, 40) := by kernel_rfl

/-- The cells of a value, and of a row. -/
def vcells (x : Val) : List Value := [.int .i64 x.k, .int .i64 x.n, .int .i64 x.d, .string x.s]
def flat (xs : List Val) : List Value := xs.flatMap vcells
theorem flat_get : ∀ (xs : List Val) (i j : Nat) (h : i < xs.length), j < 4 → (flat xs)[i * 4 + j]? = (vcells xs[i])[j]?
  | [], i, j, h, _ => by simp at h
  | x :: xs, 0, j, h, hj => by
    simp only [flat, List.flatMap_cons, Nat.zero_mul, Nat.zero_add, List.getElem_cons_zero]
    rw [List.getElem?_append_left (by simpa [vcells] using hj)]
  | x :: xs, i + 1, j, h, hj => by
    have ih := flat_get xs i j (by simpa using h) hj
    simp only [flat, List.flatMap_cons, List.getElem_cons_succ] at ih ⊢
    rw [List.getElem?_append_right (by simp [vcells]; omega), ← ih]
    congr 1
    simp [vcells]
    omega
theorem cells_lie {w : World} {b off : Nat} {xs : List Val} (h : ∀ j, j < xs.length * 4 → w.cell? ⟨b, off + j, none⟩ = (flat xs)[j]?) : Lies w b off xs := fun i hi => by
  refine ⟨?_, ?_, ?_, ?_⟩
  · have := h (i * 4 + 0) (by omega); rw [flat_get xs i 0 hi (by omega)] at this; simpa [vcells] using this
  · have := h (i * 4 + 1) (by omega); rw [flat_get xs i 1 hi (by omega)] at this; simpa [vcells, Nat.add_assoc] using this
  · have := h (i * 4 + 2) (by omega); rw [flat_get xs i 2 hi (by omega)] at this; simpa [vcells, Nat.add_assoc] using this
  · have := h (i * 4 + 3) (by omega); rw [flat_get xs i 3 hi (by omega)] at this; simpa [vcells, Nat.add_assoc] using this

/-- A slice value that holds a row, nil or not. -/
def RowAt (w : World) (v : Value) (xs : List Val) : Prop := ∃ p c, v = .slice p xs.length c ∧ (xs = [] ∨ ∃ b off, p = some ⟨b, off, none⟩ ∧ b < w.heap.size ∧ Lies w b off xs)
theorem RowAt.below {w w' : World} {v : Value} {xs : List Val} (h : RowAt w v xs) (hb : Below w.heap.size w w') : RowAt w' v xs := by
  obtain ⟨p, c, e, h⟩ := h
  refine ⟨p, c, e, ?_⟩
  rcases h with h | ⟨b, off, h1, h2, h3⟩
  · exact Or.inl h
  · exact Or.inr ⟨b, off, h1, Nat.lt_of_lt_of_le h2 hb.size, h3.below hb h2⟩

end Go.Proofs.YtgmmhgbodddadaaGreatDoor

namespace Go.Proofs.YtgmmhgbodddadaaGreatDoor
open Go.RowKit LX Go.Shelf
set_option linter.unusedVariables false

/-- An event. -/
structure Evt where
  name : ByteArray
  args : List Val
/-- Why values may not be. -/
def valsE : List Val → Int
  | [] => 0
  | v :: l => if v.may = 0 then valsE l else v.may
/-- Are values of these kinds? -/
def kfit : List Int → List Val → Bool
  | [], [] => true
  | k :: ks, v :: vs => v.k == k && kfit ks vs
  | _, _ => false
theorem kfit_len {ks : List Int} {vs : List Val} (h : ¬ ks.length = vs.length) : kfit ks vs = false := by
  induction ks generalizing vs with
  | nil => cases vs with
    | nil => exact absurd rfl h
    | cons v vs => rfl
  | cons k ks ih => cases vs with
    | nil => rfl
    | cons v vs =>
      unfold kfit
      rw [ih (fun e => h (by simp [e])), Bool.and_false]
/-- The kinds of the declaration at a place. -/
def kindsAt (L : List Dec) (i : Int) : List Int := (L.getD i.toNat ⟨⟨#[]⟩, []⟩).kinds
/-- Why an event does not fit. -/
def evtE (L : List Dec) (e : Evt) : Int := if valsE e.args = 0 then (if 0 ≤ findI e.name L 0 ∧ kfit (kindsAt L (findI e.name L 0)) e.args = true then 0 else 90) else valsE e.args
def evtsE (L : List Dec) : List Evt → Int
  | [] => 0
  | e :: l => if evtE L e = 0 then evtsE L l else evtE L e
def sizeE (t : Int) (n : Nat) : Int := if t < 0 ∨ 1099511627776 < t then 5 else if 64 < n then 3 else 0
/-- Why a point does not fit a signature. -/
def pointE (L : List Dec) (t : Int) (es : List Evt) : Int := if sigE L = 0 then (if sizeE t es.length = 0 then evtsE L es else sizeE t es.length) else sigE L

theorem findI_bound (x : ByteArray) (L : List Dec) (k : Nat) (h : 0 ≤ findI x L k) : (k : Int) ≤ findI x L k ∧ findI x L k < k + L.length := by
  induction L generalizing k with
  | nil => simp [findI] at h
  | cons d l ih =>
    rw [findI_cons] at h ⊢
    by_cases hd : d.name = x
    · rw [if_pos hd]; simp; omega
    · rw [if_neg hd] at h ⊢
      have := ih (k + 1) h
      simp only [List.length_cons]
      omega

theorem RowAt.formX {w : World} {v : Value} {xs : List Val} (h : RowAt w v xs) : ∃ p c, v = .slice p xs.length c ∧ ∀ i (hi : i < xs.length), ∃ b off, p = some ⟨b, off, none⟩ ∧ b < w.heap.size ∧ w.cell? ⟨b, off + i * 4, none⟩ = some (.int .i64 xs[i].k) ∧ w.cell? ⟨b, off + i * 4 + 1, none⟩ = some (.int .i64 xs[i].n) ∧ w.cell? ⟨b, off + i * 4 + 2, none⟩ = some (.int .i64 xs[i].d) ∧ w.cell? ⟨b, off + i * 4 + 3, none⟩ = some (.string xs[i].s) := by
  obtain ⟨p, c, e, h | ⟨b, off, h1, h2, h3⟩⟩ := h
  · exact ⟨p, c, e, fun i hi => by subst h; simp at hi⟩
  · exact ⟨p, c, e, fun i hi => ⟨b, off, h1, h2, h3 i hi⟩⟩

/-- Events lie in a slice. -/
def EvsAt (w : World) (v : Value) (es : List Evt) : Prop := ∃ p c, v = .slice p es.length c ∧ (es = [] ∨ ∃ b off, p = some ⟨b, off, none⟩ ∧ b < w.heap.size ∧ ∀ i (h : i < es.length), ∃ u, w.cell? ⟨b, off + i * 2, none⟩ = some (.string es[i].name) ∧ w.cell? ⟨b, off + i * 2 + 1, none⟩ = some u ∧ RowAt w u es[i].args)
theorem EvsAt.below {w w' : World} {v : Value} {es : List Evt} (h : EvsAt w v es) (hb : Below w.heap.size w w') : EvsAt w' v es := by
  obtain ⟨p, c, e, h | ⟨b, off, h1, h2, h3⟩⟩ := h
  · exact ⟨p, c, e, Or.inl h⟩
  · refine ⟨p, c, e, Or.inr ⟨b, off, h1, Nat.lt_of_lt_of_le h2 hb.size, fun i hi => ?_⟩⟩
    obtain ⟨u, a1, a2, a3⟩ := h3 i hi
    exact ⟨u, (hb.cell (p := ⟨b, _, none⟩) h2).trans a1, (hb.cell (p := ⟨b, _, none⟩) h2).trans a2, a3.below hb⟩
theorem EvsAt.form {w : World} {v : Value} {es : List Evt} (h : EvsAt w v es) : ∃ p c, v = .slice p es.length c ∧ ∀ i (hi : i < es.length), ∃ b off u, p = some ⟨b, off, none⟩ ∧ b < w.heap.size ∧ w.cell? ⟨b, off + i * 2, none⟩ = some (.string es[i].name) ∧ w.cell? ⟨b, off + i * 2 + 1, none⟩ = some u ∧ RowAt w u es[i].args := by
  obtain ⟨p, c, e, h | ⟨b, off, h1, h2, h3⟩⟩ := h
  · exact ⟨p, c, e, fun i hi => by subst h; simp at hi⟩
  · refine ⟨p, c, e, fun i hi => ?_⟩
    obtain ⟨u, a1, a2, a3⟩ := h3 i hi
    exact ⟨b, off, u, h1, h2, a1, a2, a3⟩

set_option maxRecDepth 100000 in
theorem ofkind_any (K k n d : Int) (s : ByteArray) (w : World) :
    Calls Tryz.prog 72 #[.int .i64 K, .agg #[.int .i64 k, .int .i64 n, .int .i64 d, .string s]] w fun e w' => e = .returned (.bool (k == K)) ∧ Below w.heap.size w w' := by
  go_enter Tryz.func72, Tryz.ntmps72
  go_wp2
  go_ret
  exact ⟨rfl, by go_grown⟩

set_option maxRecDepth 100000 in
set_option maxHeartbeats 2000000 in
theorem eqk_any (A B : Value) (ks : List Int) (vs : List Val) (w : World) (hA : KAt w A ks) (hB : RowAt w B vs) (lx : ks.length ≤ 9223372036854775807) (ly : vs.length ≤ 9223372036854775807) :
    Calls Tryz.prog 71 #[A, B, .func (.func 72) #[] #[]] w fun e w' => e = .returned (.bool (kfit ks vs)) ∧ Below w.heap.size w w' := by
  have eg : ∀ args w, (callFunc 72 args).run Tryz.prog w = .ok (.enter 72 args) w := enters_of Tryz.func72 (by kernel_rfl) rfl
  obtain ⟨p, c, rfl, HX0⟩ := hA.form
  obtain ⟨p', c', rfl, HY0⟩ := hB.formX
  by_cases hl : ks.length = vs.length
  · have HX : Hid (∀ i (hi : i < ks.length), ∃ b off, p = some ⟨b, off, none⟩ ∧ b < w.heap.size ∧ w.cell? ⟨b, off + i, none⟩ = some (.int .i64 ks[i])) := HX0
    have HY : Hid (∀ i (hi : i < vs.length), ∃ b off, p' = some ⟨b, off, none⟩ ∧ b < w.heap.size ∧ w.cell? ⟨b, off + i * 4, none⟩ = some (.int .i64 vs[i].k) ∧ w.cell? ⟨b, off + i * 4 + 1, none⟩ = some (.int .i64 vs[i].n) ∧ w.cell? ⟨b, off + i * 4 + 2, none⟩ = some (.int .i64 vs[i].d) ∧ w.cell? ⟨b, off + i * 4 + 3, none⟩ = some (.string vs[i].s)) := HY0
    obtain ⟨n, en⟩ : ∃ n : Nat, Hid (ks.length = n) := ⟨_, rfl⟩
    have em : Hid (vs.length = n) := hl.symm.trans en.out
    rw [en.out] at lx ⊢
    rw [em.out]
    clear hA hB hl ly HX0 HY0
    go_enter Tryz.func71, Tryz.ntmps71
    go_wp2
    go_loopw [17] (fun i wr => ∃ k : Nat, k ≤ n ∧ i = .int .i64 k ∧ Hid (kfit ks vs = kfit (ks.drop k) (vs.drop k)) ∧ Below w.heap.size w wr) (fun i _ => n - (intOf i).toNat)
    case atStart => exact ⟨0, Nat.zero_le _, rfl, (show kfit ks vs = kfit (ks.drop 0) (vs.drop 0) by simp), Below.refl _ _⟩
    case round =>
      obtain ⟨k, hk, rfl, hr, hB⟩ := hrel
      by_cases hlt : k < n
      · have kx : k < ks.length := by have := en.out; omega
        have ky : k < vs.length := by have := em.out; omega
        obtain ⟨b, off, rfl, hb, r0⟩ := HX.out k kx
        obtain ⟨b', off', rfl, hb', s0, s1, s2, s3⟩ := HY.out k ky
        have a0 := (hB.cell (p := ⟨b, off + k, none⟩) hb).trans r0
        have b0 := (hB.cell (p := ⟨b', off' + k * 4, none⟩) hb').trans s0
        have b1 := (hB.cell (p := ⟨b', off' + k * 4 + 1, none⟩) hb').trans s1
        have b2 := (hB.cell (p := ⟨b', off' + k * 4 + 2, none⟩) hb').trans s2
        have b3 := (hB.cell (p := ⟨b', off' + k * 4 + 3, none⟩) hb').trans s3
        have hbr : b < wr.heap.size := Nat.lt_of_lt_of_le hb hB.size
        have hbr' : b' < wr.heap.size := Nat.lt_of_lt_of_le hb' hB.size
        have hr2 : Hid (kfit ks vs = (vs[k].k == ks[k] && kfit (ks.drop (k + 1)) (vs.drop (k + 1)))) := by
          have h := hr.out
          rw [List.drop_eq_getElem_cons kx, List.drop_eq_getElem_cons ky] at h
          exact h
        clear r0 s0 s1 s2 s3 hr
        generalize ks[k] = K at a0 hr2
        generalize vs[k] = Y at b0 b1 b2 b3 hr2
        obtain ⟨C, eC⟩ : ∃ C : Bool, Hid ((Y.k == K) = C) := ⟨_, rfl⟩
        rw [eC.out] at hr2
        have ct : Hid (∀ W : World, Calls Tryz.prog 72 #[.int .i64 K, .agg #[.int .i64 Y.k, .int .i64 Y.n, .int .i64 Y.d, .string Y.s]] W fun e w' => e = .returned (.bool C) ∧ Below W.heap.size W w') := fun W => by
          have h := ofkind_any K Y.k Y.n Y.d Y.s W
          rw [eC.out] at h
          exact h
        clear eC
        go_wp2_with fail
        refine (ct.out _).mono ?_
        rintro e w1 ⟨rfl, hw1⟩
        obtain ⟨hw2, hn2⟩ := bgX (n := wr.heap.size) (W0 := wr) (by go_grown) (by go_size) hw1
        have hB2 : Below w.heap.size w w1 := hB.trans (hw2.mono hB.size)
        clear a0 b0 b1 b2 b3 ct hw1 hw2 hn2
        cases C with
        | true =>
          have hr3 : Hid (kfit ks vs = kfit (ks.drop (k + 1)) (vs.drop (k + 1))) := by have := hr2.out; rwa [Bool.true_and] at this
          go_wp2
          exact ⟨⟨k + 1, by omega, by go_num, hr3, hB2⟩, by simp [intOf]; omega⟩
        | false =>
          have hr3 : Hid (kfit ks vs = false) := by have := hr2.out; rwa [Bool.false_and] at this
          go_wp2
          go_ret
          exact ⟨retb hr3.out.symm, hB2⟩
      · have c2 : ¬ (k : Int) < n := by omega
        have hr3 : Hid (kfit ks vs = true) := by
          have h := hr.out
          rw [List.drop_eq_nil_of_le (by have := en.out; omega), List.drop_eq_nil_of_le (by have := em.out; omega)] at h
          exact h
        go_wp2
        go_ret
        exact ⟨retb hr3.out.symm, hB⟩
  · have HS : Hid (kfit ks vs = false) := kfit_len hl
    have h2 : ((ks.length : Int) == vs.length) = false := by simp; omega
    clear hA hB HX0 HY0
    generalize ks.length = n at *
    generalize vs.length = m at *
    go_enter Tryz.func71, Tryz.ntmps71
    go_wp2
    go_ret
    exact ⟨retb HS.out.symm, by go_grown⟩

set_option maxRecDepth 100000 in
theorem csize_any (t : Int) (p : Option Addr) (n c : Nat) (w : World) :
    Calls Tryz.prog 48 #[.agg #[.int .i64 t, .slice p n c]] w fun e w' => e = .returned (errV (sizeE t n)) ∧ Below w.heap.size w w' := by
  obtain ⟨E, eE⟩ : ∃ E : Int, Hid (sizeE t n = E) := ⟨_, rfl⟩
  rw [eE.out]
  by_cases h1 : t < 0
  · have hE : Hid (E = 5) := by have h := eE.out; unfold sizeE at h; rw [if_pos (Or.inl h1)] at h; exact h.symm
    go_enter Tryz.func48, Tryz.ntmps48
    go_wp2
    go_ret
    exact ⟨retE hE.out rfl, by go_grown⟩
  · by_cases h2 : 1099511627776 < t
    · have hE : Hid (E = 5) := by have h := eE.out; unfold sizeE at h; rw [if_pos (Or.inr h2)] at h; exact h.symm
      go_enter Tryz.func48, Tryz.ntmps48
      go_wp2
      go_ret
      exact ⟨retE hE.out rfl, by go_grown⟩
    · by_cases h3 : 64 < n
      · have hE : Hid (E = 3) := by have h := eE.out; unfold sizeE at h; rw [if_neg (by omega), if_pos h3] at h; exact h.symm
        have h3' : (64 : Int) < n := by omega
        go_enter Tryz.func48, Tryz.ntmps48
        go_wp2
        go_ret
        exact ⟨retE hE.out rfl, by go_grown⟩
      · have hE : Hid (E = 0) := by have h := eE.out; unfold sizeE at h; rw [if_neg (by omega), if_neg h3] at h; exact h.symm
        have h3' : ¬ (64 : Int) < n := by omega
        go_enter Tryz.func48, Tryz.ntmps48
        go_wp2
        go_ret
        exact ⟨retE hE.out rfl, by go_grown⟩

end Go.Proofs.YtgmmhgbodddadaaGreatDoor

namespace Go.Proofs.YtgmmhgbodddadaaGreatDoor
open Go.RowKit Go.Shelf
set_option linter.unusedVariables false

theorem grownBy_setX (w : World) (b i : Nat) (v : Value) : w.grownBy (w.setCell ⟨b, i, none⟩ v) (some b) :=
  ⟨rfl, rfl, rfl, by simp [World.setCell], fun k _ hk => Below.heap_setCell _ _ _ _ (fun e => hk (by simp [e]))⟩
theorem own_neX {w : World} {B e e' size n T : Nat} {v : Value} {xs : List Value} {cur : Array Value} {fr : Nat × Nat} (h : w.ownsRow B e size v n xs) (hT : w.heap[T]? = some (.cells cur e' fr)) (hne : e ≠ e') : v.ownBlock ≠ some T := by
  intro hv
  obtain ⟨-, ⟨rfl, -⟩ | ⟨g, cap, cur', rfl, -, hg, -⟩⟩ := h
  · cases hv
  · injection hv with hv
    have hv' : g = T := hv
    subst hv'
    rw [hg] at hT
    injection hT with hT
    injection hT with _ h2 _
    exact hne h2
/-- Blocks that are not bytes, and not the builder's own, stay. -/
def KeepB (b : Nat) (w w' : World) : Prop := ∀ k cs t fz, k < w.heap.size → k ≠ b → w.heap[k]? = some (.cells cs t fz) → t ≠ 5 → w'.heap[k]? = w.heap[k]?
theorem KeepB.refl (b : Nat) (w : World) : KeepB b w w := fun _ _ _ _ _ _ _ _ => rfl

theorem ckK (B b : Nat) (bs : List Value) (w : World) (h : Lib.IsBuilder 62 5 B b bs w) :
    Calls Tryz.prog 53 #[.pointer (some ⟨b, 0, none⟩)] w fun e w' => e = .returned (.tuple #[]) ∧ Lib.BuilderAt 62 5 B b (.pointer (some ⟨b, 0, none⟩)) bs w' ∧ Below B w w' ∧ (∀ k, k < w.heap.size → k ≠ b → w'.heap[k]? = w.heap[k]?) := by
  rcases h with h | h
  · refine (ck_fresh b w h.cell0 h.shape h.frozen0).mono ?_
    rintro e w' ⟨rfl, rfl⟩
    exact ⟨rfl, h.used _, (Below.refl B w).setCell (p := ⟨b, 0, none⟩) h.1 _, fun k hk hb => (grownBy_setX w b 0 _).block k hk (fun e => hb (by injection e))⟩
  · refine (ck_used b w h.cell0).mono ?_
    rintro e w' ⟨rfl, rfl⟩
    exact ⟨rfl, h, Below.refl B _, fun _ _ _ => rfl⟩

set_option maxHeartbeats 2000000 in
set_option maxRecDepth 100000 in
theorem wstrK (B b : Nat) (bs : List Value) (s : ByteArray) (w : World) (h : Lib.IsBuilder 62 5 B b bs w) (hlen : bs.length + s.size ≤ 140737488355328) (hBw : B ≤ w.heap.size) :
    Calls Tryz.prog 29 #[.pointer (some ⟨b, 0, none⟩), .string s] w fun e w' => e = .returned (.tuple #[.int .i64 s.size, .nilIface]) ∧ Lib.BuilderAt 62 5 B b (.pointer (some ⟨b, 0, none⟩)) (bs ++ Lib.strCells s) w' ∧ Below B w w' ∧ KeepB b w w' := by
  obtain ⟨i0, hi, hz0, hz1, hz2⟩ := info_parts inB
  go_enter Tryz.func29, Tryz.ntmps29
  go_wp2_with (go_at_call 53; refine (ckK B b bs _ h).mono ?_)
  rintro e w1 ⟨rfl, ⟨hB, v, hbk, hown, hne⟩, hb1, hk1⟩
  have s1 := hb1.size
  have c1 : w1.cell? ⟨b, 1, none⟩ = some v := by rw [Lib.cell_of_heap hbk]; rfl
  go_wp2_with (at_builtin; refine Lib.wpList_append_own_string _ rfl _ _ 60 9 rfl B 5 i0 Tryz.underlying60 Tryz.underlying9 hi hz0 hz1 hz2 _ _ _ rfl hown s rfl ?c3 ?c4 ?c5 ?_)
  case c3 => unfold maxLen; omega
  case c4 => omega
  case c5 => omega
  intro v' w2 hown' hgrow _
  have hlt : b < w1.heap.size := Lib.BuilderAt.lt ⟨hB, v, hbk, hown, hne⟩
  have hb2 : w2.heap[b]? = some (.cells #[.pointer (some ⟨b, 0, none⟩), v] 62 (0, 0)) := by
    rw [hgrow.block b hlt (fun e => hne e.symm)]
    exact hbk
  have d1 : w2.cell? ⟨b, 1, none⟩ = some v := by rw [Lib.cell_of_heap hb2]; rfl
  have f1 : w2.frozen? ⟨b, 1, none⟩ = false := Lib.frozen_of_heap hb2 1
  have hkeep : Hid (∀ u : Value, KeepB b w (w2.setCell ⟨b, 1, none⟩ u)) := fun u k cs t fz hk hkb hc ht => by
    have e1 := hk1 k hk hkb
    have hw1 : k < w1.heap.size := Nat.lt_of_lt_of_le hk (by have := hb1.size; omega)
    have e2 := hgrow.block k hw1 (fun e => own_neX hown (e1.trans hc) (fun e' => ht e'.symm) e.symm)
    have hw2 : k < w2.heap.size := Nat.lt_of_lt_of_le hw1 hgrow.size
    exact ((grownBy_setX w2 b 1 u).block k hw2 (fun e => hkb (by injection e))).trans (e2.trans e1)
  obtain ⟨ao, n', cap, rfl⟩ : ∃ ao n' cap, v' = .slice ao n' cap := by
    rcases hown'.2 with ⟨hv, _⟩ | ⟨g, cap, cur, hv, _⟩
    · exact ⟨_, _, _, hv⟩
    · exact ⟨_, _, _, hv⟩
  go_wp2
  go_ret2
  refine ⟨rfl, ?_, ?_, hkeep.out _⟩
  · exact Lib.BuilderAt.put (T := 62) (e := 5) hB hb2 (bs' := bs ++ Lib.strCells s) (by simpa [Lib.strCells_length] using hown') (by decide)
  · exact (hb1.grown hgrow (by omega) (fun k hk => (hown.lt k hk).1)).setCell (p := ⟨b, 1, none⟩) hB _
end Go.Proofs.YtgmmhgbodddadaaGreatDoor

namespace Go.Proofs.YtgmmhgbodddadaaGreatDoor
open Go.RowKit LX Go.Shelf
set_option linter.unusedVariables false

/-- A builder that holds some bytes. -/
def Bld (B b : Nat) (l : List UInt8) (w : World) : Prop := Lib.IsBuilder 62 5 B b (Lib.byteCells l) w
theorem wsB (B b : Nat) (l : List UInt8) (s : ByteArray) (w : World) (h : Bld B b l w) (hlen : l.length + s.size ≤ 140737488355328) (hBw : B ≤ w.heap.size) :
    Calls Tryz.prog 29 #[.pointer (some ⟨b, 0, none⟩), .string s] w fun e w' => e = .returned (.tuple #[.int .i64 s.size, .nilIface]) ∧ Bld B b (l ++ s.data.toList) w' ∧ Below B w w' ∧ KeepB b w w' := by
  refine (wstrK B b _ s w h (by rw [Lib.byteCells_length]; exact hlen) hBw).mono ?_
  rintro e w' ⟨rfl, h1, h2, h3⟩
  refine ⟨rfl, ?_, h2, h3⟩
  unfold Bld
  rw [Lib.byteCells_append]
  exact Or.inr h1
theorem wbB (B b : Nat) (l : List UInt8) (c : UInt8) (w : World) (h : Bld B b l w) (hlen : l.length + 1 ≤ 140737488355328) (hBw : B ≤ w.heap.size) :
    Calls Tryz.prog 31 #[.pointer (some ⟨b, 0, none⟩), .int .u8 c.toNat] w fun e w' => e = .returned .nilIface ∧ Bld B b (l ++ [c]) w' ∧ Below B w w' := by
  refine (wbyte B b _ c.toNat w h (by rw [Lib.byteCells_length]; exact hlen) hBw).mono ?_
  rintro e w' ⟨rfl, h1, h2⟩
  refine ⟨rfl, ?_, h2⟩
  unfold Bld
  rw [Lib.byteCells_append]
  exact Or.inr h1
theorem Bld.lt {B b : Nat} {l : List UInt8} {w : World} (h : Bld B b l w) : b < w.heap.size := by
  rcases h with h | h
  · exact Lib.BuilderAt.lt h
  · exact Lib.BuilderAt.lt h
theorem own_belX {w w' : World} {B e size n : Nat} {v : Value} {xs : List Value} (h : w.ownsRow B e size v n xs) (hb : Below w.heap.size w w') : w'.ownsRow B e size v n xs :=
  World.ownsRow.kept h (row := none) ⟨hb.os, hb.tape, hb.output, hb.size, fun k hk _ => hb.block k hk⟩ (by cases hv : v.ownBlock with | none => exact Or.inl rfl | some k => exact Or.inr (by intro h; cases h))
/-- What a callee that only makes new memory leaves of a builder. -/
theorem Bld.below {B b : Nat} {l : List UInt8} {w w' : World} (h : Bld B b l w) (hb : Below w.heap.size w w') : Bld B b l w' := by
  rcases h with h | h
  · have hl := Lib.BuilderAt.lt h
    obtain ⟨hB, v, hbk, hown, hne⟩ := h
    exact Or.inl ⟨hB, v, (hb.block b hl).trans hbk, own_belX hown hb, hne⟩
  · have hl := Lib.BuilderAt.lt h
    obtain ⟨hB, v, hbk, hown, hne⟩ := h
    exact Or.inr ⟨hB, v, (hb.block b hl).trans hbk, own_belX hown hb, hne⟩

def Val.text (v : Val) : List UInt8 := vtext v.k v.n v.d v.s
theorem Val.text_len {v : Val} (h : v.may = 0) (f : v.Fits) : v.text.length ≤ 300 := by
  have hs := chk_size h
  unfold Val.text vtext
  split
  · have := Lib.itoa_length_le v.n f.n1 f.n2; omega
  · split
    · have := Lib.itoa_length_le v.n f.n1 f.n2
      have := Lib.itoa_length_le v.d f.d1 f.d2
      simp; omega
    · have := inside_len v.s.data.toList
      have e : v.s.data.toList.length = v.s.size := by simp
      unfold quoted
      simp; omega
/-- The text of an event's values, and of an event. -/
def argsT : List Val → List UInt8
  | [] => []
  | v :: l => (32 :: v.text) ++ argsT l
def evtT (e : Evt) : List UInt8 := (32 :: 40 :: e.name.data.toList) ++ (argsT e.args ++ [41])
def wevE (e : Evt) : Int := if nameB e.name = true then valsE e.args else 1
theorem argsT_snoc (l : List Val) (v : Val) : argsT (l ++ [v]) = argsT l ++ (32 :: v.text) := by
  induction l with
  | nil => simp [argsT]
  | cons x l ih => simp only [List.cons_append, argsT, ih, List.append_assoc]
theorem argsT_len (l : List Val) (h : ∀ v ∈ l, v.may = 0 ∧ v.Fits) : (argsT l).length ≤ 301 * l.length := by
  induction l with
  | nil => simp [argsT]
  | cons x l ih =>
    have h1 := Val.text_len (h x (by simp)).1 (h x (by simp)).2
    have h2 := ih (fun v hv => h v (by simp [hv]))
    simp only [argsT, List.length_append, List.length_cons]
    omega
theorem heap_allocX (w : World) (o : Obj) : (w.alloc o).heap[w.heap.size]? = some o := by
  show (w.heap.push o)[w.heap.size]? = some o
  rw [Array.getElem?_push, if_pos rfl]
theorem valsE_all {l : List Val} (h : valsE l = 0) : ∀ v ∈ l, v.may = 0 := by
  induction l with
  | nil => intro v hv; cases hv
  | cons x l ih =>
    unfold valsE at h
    by_cases hx : x.may = 0
    · rw [if_pos hx] at h
      intro v hv
      rcases List.mem_cons.1 hv with rfl | hv
      · exact hx
      · exact ih h v hv
    · rw [if_neg hx] at h; exact absurd h hx

set_option maxRecDepth 100000 in
set_option maxHeartbeats 4000000 in
theorem wev_any (B bb : Nat) (l : List UInt8) (e : Evt) (V : Value) (w0 w : World) (h0 : Below w0.heap.size w0 w) (hB0 : w0.heap.size ≤ B) (hBw : B ≤ w.heap.size) (h : Bld B bb l w) (hV : RowAt w0 V e.args) (ht : Pow w0) (fx : ∀ v ∈ e.args, v.Fits) (lv : e.args.length ≤ 9223372036854775807) (hl : l.length + 301 * e.args.length + e.name.size + 400 ≤ 140737488355328) :
    Calls Tryz.prog 61 #[.pointer (some ⟨bb, 0, none⟩), .agg #[.string e.name, V]] w fun r w' => r = .returned (errV (wevE e)) ∧ Below B w w' ∧ (wevE e = 0 → Bld B bb (l ++ evtT e) w') := by
  have cN : Hid (∀ W : World, Calls Tryz.prog 73 #[.string e.name] W fun e' w' => e' = .returned (.bool (nameB e.name)) ∧ w' = W) := fun W => name_any e.name W
  obtain ⟨pv, cv, rfl, HY0⟩ := hV.formX
  have HY : Hid (∀ i (hi : i < e.args.length), ∃ b off, pv = some ⟨b, off, none⟩ ∧ b < w0.heap.size ∧ w0.cell? ⟨b, off + i * 4, none⟩ = some (.int .i64 e.args[i].k) ∧ w0.cell? ⟨b, off + i * 4 + 1, none⟩ = some (.int .i64 e.args[i].n) ∧ w0.cell? ⟨b, off + i * 4 + 2, none⟩ = some (.int .i64 e.args[i].d) ∧ w0.cell? ⟨b, off + i * 4 + 3, none⟩ = some (.string e.args[i].s)) := HY0
  have HT : Hid (Pow w0) := ht
  have HB : Hid (Bld B bb l w) := h
  have hbb := h.lt
  have hE0 : Hid (wevE e = if nameB e.name = true then valsE e.args else 1) := rfl
  clear hV HY0 ht h
  obtain ⟨m, em⟩ : ∃ m : Nat, Hid (e.args.length = m) := ⟨_, rfl⟩
  obtain ⟨X, eX⟩ : ∃ X : ByteArray, Hid (e.name = X) := ⟨_, rfl⟩
  obtain ⟨E, eE⟩ : ∃ E : Int, Hid (wevE e = E) := ⟨_, rfl⟩
  have hev : Hid (evtT e = (32 :: 40 :: X.data.toList) ++ (argsT e.args ++ [41])) := by unfold Hid evtT; rw [eX.out]
  rw [eX.out] at cN
  rw [eE.out, eX.out] at hE0
  rw [em.out, eX.out] at hl
  rw [em.out] at lv
  rw [eE.out, eX.out, em.out]
  go_enter Tryz.func61, Tryz.ntmps61
  cases hN : nameB X with
  | false =>
    have hE : Hid (E = 1) := by have h := hE0.out; rwa [if_neg (by rw [hN]; decide)] at h
    rw [hN] at cN
    go_wp2_with fail
    refine (cN.out _).mono ?_
    rintro e' w1 ⟨rfl, rfl⟩
    go_wp2
    go_ret
    exact ⟨retE hE.out rfl, Below.mono (B := w.heap.size) (by go_grown) hBw, fun h => by rw [hE.out] at h; cases h⟩
  | true =>
    have hE : Hid (E = valsE e.args) := by have h := hE0.out; rwa [if_pos hN] at h
    rw [hN] at cN
    clear hE0 hN
    obtain ⟨S, eS⟩ : ∃ S : ByteArray, Hid (S = (⟨#[32, 40]⟩ : ByteArray) ++ X) := ⟨_, rfl⟩
    have x1 : ∀ W : World, (Op.stringOp .add ⟨#[32, 40]⟩ X).run Tryz.prog W = .ok (.string S) W := fun W => by
      rw [run_string_add_sum W _ _ (by have : (⟨#[32, 40]⟩ : ByteArray).size = 2 := rfl
                                       omega), eS.out]
    have sS : S.size = 2 + X.size := by rw [eS.out, ByteArray.size_append]; rfl
    have lS : Hid (S.data.toList = 32 :: 40 :: X.data.toList) := by unfold Hid; rw [eS.out]; simp
    go_wp2_with fail
    refine (cN.out _).mono ?_
    rintro e' w1 ⟨rfl, rfl⟩
    go_wp2_with fail
    refine (wsB B bb l S _ (HB.out.below (by go_grown)) (by omega) (by simp; omega)).mono ?_
    rintro e' w1 ⟨rfl, hb1, hB1, hK1⟩
    have c1 : w1.cell? ⟨w.heap.size, 1, none⟩ = some (.slice pv m cv) := by
      have hh := hK1 w.heap.size #[.string X, .slice pv m cv] 48 (0, 0) (by simp) (by omega) (heap_allocX _ _) (by decide)
      rw [Lib.cell_of_heap (hh.trans (heap_allocX _ _))]
      rfl
    have K1 : Below B w w1 := Below.trans (Below.mono (B := w.heap.size) (by go_grown) hBw) hB1
    have HB1 : Hid (Bld B bb (l ++ S.data.toList) w1) := hb1
    clear hb1 hB1 hK1 cN HB x1
    go_wp2
    go_loopw [23] (fun i wr => ∃ k : Nat, k ≤ m ∧ i = .int .i64 k ∧ Hid (E = valsE (e.args.drop k)) ∧ Hid (∀ v ∈ e.args.take k, v.may = 0) ∧ Hid (Bld B bb (l ++ S.data.toList ++ argsT (e.args.take k)) wr) ∧ Below B w wr) (fun i _ => m - (intOf i).toNat)
    case atStart => exact ⟨0, Nat.zero_le _, rfl, by rw [List.drop_zero]; exact hE, (fun v hv => by simp at hv), by simpa [argsT, Hid] using HB1.out, K1⟩
    case round =>
      obtain ⟨k, hk, rfl, hr, hok, hbl, hBw2⟩ := hrel
      have hsz : B ≤ wr.heap.size := Nat.le_trans hBw hBw2.size
      have hB0r : Below w0.heap.size w0 wr := h0.trans (hBw2.mono hB0)
      have lT : (argsT (e.args.take k)).length ≤ 301 * k := by
        have h := argsT_len (e.args.take k) (fun v hv => ⟨hok.out v hv, fx v (List.mem_of_mem_take hv)⟩)
        rw [List.length_take, Nat.min_eq_left (by have := em.out; omega)] at h
        exact h
      have lTS : (l ++ S.data.toList ++ argsT (e.args.take k)).length ≤ l.length + (2 + X.size) + 301 * k := by
        have : S.data.toList.length = S.size := by simp
        rw [List.length_append, List.length_append]
        omega
      by_cases hlt : k < m
      · have kx : k < e.args.length := by have := em.out; omega
        obtain ⟨b, off, rfl, hb, r0, r1, r2, r3⟩ := HY.out k kx
        have a0 := (hB0r.cell (p := ⟨b, off + k * 4, none⟩) hb).trans r0
        have a1 := (hB0r.cell (p := ⟨b, off + k * 4 + 1, none⟩) hb).trans r1
        have a2 := (hB0r.cell (p := ⟨b, off + k * 4 + 2, none⟩) hb).trans r2
        have a3 := (hB0r.cell (p := ⟨b, off + k * 4 + 3, none⟩) hb).trans r3
        have f1 := fx e.args[k] (List.getElem_mem kx)
        have hr2 : Hid (E = if e.args[k].may = 0 then valsE (e.args.drop (k + 1)) else e.args[k].may) := by
          have h := hr.out
          rw [List.drop_eq_getElem_cons kx] at h
          exact h
        have hbl2 : Hid (∀ W, Bld B bb (l ++ S.data.toList ++ argsT (e.args.take k) ++ (32 :: e.args[k].text)) W → Bld B bb (l ++ S.data.toList ++ argsT (e.args.take (k + 1))) W) := fun W h => by
          rw [List.take_succ_eq_append_getElem kx, argsT_snoc, ← List.append_assoc]
          exact h
        have hok2 : Hid (e.args[k].may = 0 → ∀ v ∈ e.args.take (k + 1), v.may = 0) := fun hz v hv => by
          rw [List.take_succ_eq_append_getElem kx] at hv
          rcases List.mem_append.1 hv with hv | hv
          · exact hok.out v hv
          · rw [List.mem_singleton] at hv; rw [hv]; exact hz
        clear r0 r1 r2 r3 hr
        have HBL : Hid (Bld B bb (l ++ S.data.toList ++ argsT (e.args.take k)) wr) := hbl
        generalize l ++ S.data.toList ++ argsT (e.args.take k) = G at HBL hbl2 lTS
        generalize e.args[k] = Y at a0 a1 a2 a3 hr2 f1 hbl2 hok2
        obtain ⟨C, eC⟩ : ∃ C : Int, Hid (Y.may = C) := ⟨_, rfl⟩
        have cP : Hid (∀ W : World, Below wr.heap.size wr W → Calls Tryz.prog 92 #[.agg #[.int .i64 Y.k, .int .i64 Y.n, .int .i64 Y.d, .string Y.s]] W fun e w' => e = .returned (.tuple #[.string ⟨(if C = 0 then Y.text else []).toArray⟩, .int .i64 C]) ∧ Below W.heap.size W w') := fun W hW => by
          have h := print_any Y.k Y.n Y.d Y.s W f1.n1 f1.n2 f1.d1 f1.d2 (HT.out.below (hB0r.trans (hW.mono hB0r.size)))
          rw [show chk Y.k Y.n Y.d Y.s = C from eC.out] at h
          exact h
        by_cases hC : C = 0
        · have hr3 : Hid (E = valsE (e.args.drop (k + 1))) := by have h := hr2.out; rwa [if_pos (eC.out.trans hC)] at h
          have tl := Val.text_len (eC.out.trans hC) f1
          have hok3 : Hid (∀ v ∈ e.args.take (k + 1), v.may = 0) := hok2.out (eC.out.trans hC)
          rw [if_pos hC] at cP
          subst hC
          obtain ⟨TX, eT⟩ : ∃ TX : ByteArray, Hid (⟨Y.text.toArray⟩ = TX) := ⟨_, rfl⟩
          obtain ⟨S2, eS2⟩ : ∃ S2 : ByteArray, Hid (S2 = (⟨#[32]⟩ : ByteArray) ++ TX) := ⟨_, rfl⟩
          have sT : TX.size = Y.text.length := by rw [← eT.out]; show Y.text.toArray.size = _; simp
          have x2 : ∀ W : World, (Op.stringOp .add ⟨#[32]⟩ TX).run Tryz.prog W = .ok (.string S2) W := fun W => by
            rw [run_string_add_sum W _ _ (by have : (⟨#[32]⟩ : ByteArray).size = 1 := rfl
                                             omega), eS2.out]
          have sS2 : S2.size = 1 + Y.text.length := by rw [eS2.out, ByteArray.size_append, sT]; rfl
          have lS2 : Hid (S2.data.toList = 32 :: Y.text) := by unfold Hid; rw [eS2.out, ← eT.out]; simp
          rw [eT.out] at cP
          clear hr2 hok2 hok hbl eT eS2 sT
          go_wp2_with fail
          refine (cP.out _ (by go_grown)).mono ?_
          rintro e' w2 ⟨rfl, hb2⟩
          obtain ⟨hB2, -⟩ := bgX (n := wr.heap.size) (W0 := wr) (by go_grown) (by go_size) hb2
          have HB2 : Hid (Bld B bb G w2) := HBL.out.below hB2
          have s2 : B ≤ w2.heap.size := Nat.le_trans hsz hB2.size
          have K2 : Below B w w2 := hBw2.trans (hB2.mono hsz)
          clear a0 a1 a2 a3 cP hb2 hB2 HBL
          go_wp2_with fail
          refine (wsB B bb G S2 _ HB2.out (by omega) s2).mono ?_
          rintro e' w3 ⟨rfl, hb3, hB3, -⟩
          have K3 : Below B w w3 := K2.trans hB3
          rw [lS2.out] at hb3
          have HB3 : Hid (Bld B bb (l ++ S.data.toList ++ argsT (e.args.take (k + 1))) w3) := hbl2.out w3 hb3
          clear HB2 hb3 hB3 x2 hbl2 K2 lTS
          go_wp2
          exact ⟨⟨k + 1, by omega, by go_num, hr3, hok3, HB3, K3⟩, by simp [intOf]; omega⟩
        · have hr3 : Hid (E = C) := by have h := hr2.out; rwa [eC.out, if_neg hC] at h
          have hd : Hid (errV C = .iface 92 (.agg #[.int .i64 C])) := errV_ne hC
          have hC' : (C == 0) = false := by simpa using hC
          rw [if_neg hC] at cP
          clear hr2 hok2 hok hbl hbl2
          go_wp2_with fail
          refine (cP.out _ (by go_grown)).mono ?_
          rintro e' w2 ⟨rfl, hb2⟩
          obtain ⟨hB2, -⟩ := bgX (n := wr.heap.size) (W0 := wr) (by go_grown) (by go_size) hb2
          have K2 : Below B w w2 := hBw2.trans (hB2.mono hsz)
          have hnz : Hid (E ≠ 0) := by rw [hr3.out]; exact hC
          clear a0 a1 a2 a3 cP hb2 hB2 HBL hC
          go_wp2
          go_ret
          exact ⟨retE hr3.out hd.out.symm, K2, fun h => absurd h hnz.out⟩
      · have c2 : ¬ (k : Int) < m := by omega
        have hr3 : Hid (E = 0) := by
          have h := hr.out
          rw [List.drop_eq_nil_of_le (by have := em.out; omega)] at h
          exact h
        have hall : e.args.take k = e.args := List.take_of_length_le (by have := em.out; omega)
        rw [hall] at hbl lTS
        have HBL : Hid (Bld B bb (l ++ S.data.toList ++ argsT e.args) wr) := hbl
        clear hbl hall lT
        go_wp2_with fail
        refine (wbB B bb _ 41 _ HBL.out (by omega) hsz).mono ?_
        rintro e' w3 ⟨rfl, hb3, hB3⟩
        have K3 : Below B w w3 := hBw2.trans hB3
        have HB3 : Hid (Bld B bb (l ++ evtT e) w3) := by
          unfold Hid
          rw [hev.out, ← lS.out, ← List.append_assoc, ← List.append_assoc]
          exact hb3
        clear HBL hb3 hB3 lTS
        go_wp2
        go_ret
        exact ⟨retE hr3.out rfl, K3, fun _ => HB3.out⟩

end Go.Proofs.YtgmmhgbodddadaaGreatDoor

namespace Go.Proofs.YtgmmhgbodddadaaGreatDoor
open Go.RowKit LX Go.Shelf
set_option linter.unusedVariables false

theorem kindsAt_nat (L : List Dec) (i : Nat) (h : i < L.length) : kindsAt L (i : Int) = L[i].kinds := by
  unfold kindsAt
  rw [Int.toNat_natCast, List.getD_eq_getElem?_getD, List.getElem?_eq_getElem h]
  rfl
theorem bdrewX {B : Nat} {a w : World} (n : Nat) (h : Below B a w) : Below B a (w.drewN n) := ⟨h.os, h.tape, h.output, h.size, h.block⟩
set_option maxRecDepth 100000 in
set_option maxHeartbeats 4000000 in
theorem cevt_any (A V : Value) (L : List Dec) (e : Evt) (w : World) (hA : SigAt w A L) (hV : RowAt w V e.args) (fx : ∀ v ∈ e.args, v.Fits) (lL : L.length ≤ 9223372036854775807) (lk : ∀ d ∈ L, d.kinds.length ≤ 9223372036854775807) (lv : e.args.length ≤ 9223372036854775807) :
    Calls Tryz.prog 49 #[A, .agg #[.string e.name, V]] w fun r w' => r = .returned (errV (evtE L e)) ∧ Below w.heap.size w w' := by
  have HA : Hid (SigAt w A L) := hA
  have HV : Hid (RowAt w V e.args) := hV
  have LK : Hid (∀ d ∈ L, d.kinds.length ≤ 9223372036854775807) := lk
  obtain ⟨pA, cA, rfl, -, HX0⟩ := hA.form
  obtain ⟨pv, cv, rfl, HY0⟩ := hV.formX
  have HX : Hid (∀ i (hi : i < L.length), ∃ b off u, pA = some ⟨b, off, none⟩ ∧ b < w.heap.size ∧ w.cell? ⟨b, off + i * 2, none⟩ = some (.string L[i].name) ∧ w.cell? ⟨b, off + i * 2 + 1, none⟩ = some u ∧ KAt w u L[i].kinds) := HX0
  have HY : Hid (∀ i (hi : i < e.args.length), ∃ b off, pv = some ⟨b, off, none⟩ ∧ b < w.heap.size ∧ w.cell? ⟨b, off + i * 4, none⟩ = some (.int .i64 e.args[i].k) ∧ w.cell? ⟨b, off + i * 4 + 1, none⟩ = some (.int .i64 e.args[i].n) ∧ w.cell? ⟨b, off + i * 4 + 2, none⟩ = some (.int .i64 e.args[i].d) ∧ w.cell? ⟨b, off + i * 4 + 3, none⟩ = some (.string e.args[i].s)) := HY0
  have cF : Hid (∀ W : World, Below w.heap.size w W → Calls Tryz.prog 70 #[.slice pA L.length cA, .string e.name] W fun e' w' => e' = .returned (.int .i64 (findI e.name L 0)) ∧ Below W.heap.size W w') := fun W hW => find_any _ L e.name W (HA.out.below hW) lL
  have hbd : Hid (0 ≤ findI e.name L 0 → (findI e.name L 0).toNat < L.length) := fun h => by have := findI_bound e.name L 0 h; omega
  have hev : Hid (evtE L e = if valsE e.args = 0 then (if 0 ≤ findI e.name L 0 ∧ kfit (kindsAt L (findI e.name L 0)) e.args = true then 0 else 90) else valsE e.args) := rfl
  clear hA hV HX0 HY0 lk
  obtain ⟨n, en⟩ : ∃ n : Nat, Hid (L.length = n) := ⟨_, rfl⟩
  obtain ⟨m, em⟩ : ∃ m : Nat, Hid (e.args.length = m) := ⟨_, rfl⟩
  obtain ⟨X, eX⟩ : ∃ X : ByteArray, Hid (e.name = X) := ⟨_, rfl⟩
  obtain ⟨I, eI⟩ : ∃ I : Int, Hid (findI X L 0 = I) := ⟨_, rfl⟩
  obtain ⟨E, eE⟩ : ∃ E : Int, Hid (evtE L e = E) := ⟨_, rfl⟩
  rw [eX.out, eI.out] at cF hbd
  rw [eE.out, eX.out, eI.out] at hev
  rw [en.out] at cF lL HA
  rw [em.out] at lv HV
  rw [eE.out, eX.out, en.out, em.out]
  go_enter Tryz.func49, Tryz.ntmps49
  go_wp2
  refine wpX_world ?_
  intro w0 hw0
  have z0 : w0.cell? ⟨w.heap.size, 0, none⟩ = some (.string X) := by rw [hw0]; simp [go_sem]
  have z1 : w0.cell? ⟨w.heap.size, 1, none⟩ = some (.slice pv m cv) := by rw [hw0]; simp [go_sem]
  have zB : Below w.heap.size w w0 := by rw [hw0]; go_grown
  have zs : w.heap.size < w0.heap.size := by rw [hw0]; simp
  clear hw0
  go_loopw [12] (fun i wr => ∃ k : Nat, k ≤ m ∧ i = .int .i64 k ∧ Hid (valsE e.args = valsE (e.args.drop k)) ∧ Below w0.heap.size w0 wr) (fun i _ => m - (intOf i).toNat)
  case atStart => exact ⟨0, Nat.zero_le _, rfl, by rw [List.drop_zero]; exact (show valsE e.args = valsE e.args from rfl), Below.refl _ _⟩
  case round =>
    obtain ⟨k, hk, rfl, hr, hB0⟩ := hrel
    have hB : Below w.heap.size w wr := zB.trans (hB0.mono zB.size)
    have y0 : wr.cell? ⟨w.heap.size, 0, none⟩ = some (.string X) := (hB0.cell (p := ⟨w.heap.size, 0, none⟩) zs).trans z0
    have y1 : wr.cell? ⟨w.heap.size, 1, none⟩ = some (.slice pv m cv) := (hB0.cell (p := ⟨w.heap.size, 1, none⟩) zs).trans z1
    have ys : w.heap.size < wr.heap.size := Nat.lt_of_lt_of_le zs hB0.size
    by_cases hlt : k < m
    · have kx : k < e.args.length := by have := em.out; omega
      obtain ⟨b, off, rfl, hb, r0, r1, r2, r3⟩ := HY.out k kx
      have a0 := (hB.cell (p := ⟨b, off + k * 4, none⟩) hb).trans r0
      have a1 := (hB.cell (p := ⟨b, off + k * 4 + 1, none⟩) hb).trans r1
      have a2 := (hB.cell (p := ⟨b, off + k * 4 + 2, none⟩) hb).trans r2
      have a3 := (hB.cell (p := ⟨b, off + k * 4 + 3, none⟩) hb).trans r3
      have hbr : b < wr.heap.size := Nat.lt_of_lt_of_le hb hB.size
      have f1 := fx e.args[k] (List.getElem_mem kx)
      have hr2 : Hid (valsE e.args = if e.args[k].may = 0 then valsE (e.args.drop (k + 1)) else e.args[k].may) := by
        have h := hr.out
        rw [List.drop_eq_getElem_cons kx] at h
        exact h
      clear r0 r1 r2 r3 hr
      generalize e.args[k] = Y at a0 a1 a2 a3 hr2 f1
      obtain ⟨C, eC⟩ : ∃ C : Int, Hid (Y.may = C) := ⟨_, rfl⟩
      rw [eC.out] at hr2
      have ct : Hid (∀ W : World, Calls Tryz.prog 69 #[.agg #[.int .i64 Y.k, .int .i64 Y.n, .int .i64 Y.d, .string Y.s]] W fun e w' => e = .returned (.int .i64 C) ∧ Below W.heap.size W w') := fun W => by
        have h := check_any Y.k Y.n Y.d Y.s W f1.n1 f1.n2 f1.d1 f1.d2
        rw [show chk Y.k Y.n Y.d Y.s = C from eC.out] at h
        exact h
      have cf : Hid (∀ W : World, Calls Tryz.prog 68 #[.int .i64 C] W fun r w' => r = .returned (errV C) ∧ w' = W) := fun W => failed_any C W
      clear eC
      by_cases hC : C = 0
      · have hr3 : Hid (valsE e.args = valsE (e.args.drop (k + 1))) := by have h := hr2.out; rwa [if_pos hC] at h
        subst hC
        rw [errV_0] at cf
        clear hr2
        go_wp2_with fail
        refine (ct.out _).mono ?_
        rintro e' w1 ⟨rfl, hw1⟩
        obtain ⟨hw2, hn2⟩ := bgX (n := wr.heap.size) (W0 := wr) (by go_grown) (by go_size) hw1
        have hB2 : Below w0.heap.size w0 w1 := hB0.trans (hw2.mono hB0.size)
        clear a0 a1 a2 a3 ct hw1 hw2 hn2
        go_wp2_with fail
        refine (cf.out _).mono ?_
        rintro e' w2 ⟨rfl, rfl⟩
        clear cf y0 y1
        go_wp2
        exact ⟨⟨k + 1, by omega, by go_num, hr3, hB2⟩, by simp [intOf]; omega⟩
      · have hr3 : Hid (E = C) := by
          have h := hev.out
          have h' := hr2.out
          rw [if_neg hC] at h'
          rw [h', if_neg hC] at h
          exact h
        have hd : Hid (errV C = .iface 92 (.agg #[.int .i64 C])) := errV_ne hC
        rw [hd.out] at cf
        clear hr2 hC
        go_wp2_with fail
        refine (ct.out _).mono ?_
        rintro e' w1 ⟨rfl, hw1⟩
        obtain ⟨hw2, hn2⟩ := bgX (n := wr.heap.size) (W0 := wr) (by go_grown) (by go_size) hw1
        have hB2 : Below w.heap.size w w1 := hB.trans (hw2.mono hB.size)
        clear a0 a1 a2 a3 ct hw1 hw2 hn2
        go_wp2_with fail
        refine (cf.out _).mono ?_
        rintro e' w2 ⟨rfl, rfl⟩
        clear cf y0 y1
        go_wp2
        go_ret
        exact ⟨retE hr3.out hd.out.symm, hB2⟩
    · have c2 : ¬ (k : Int) < m := by omega
      have hr3 : Hid (E = if 0 ≤ I ∧ kfit (kindsAt L I) e.args = true then 0 else 90) := by
        have h := hev.out
        have h' := hr.out
        rw [List.drop_eq_nil_of_le (by have := em.out; omega)] at h'
        rw [h'] at h
        exact h
      go_wp2_with fail
      refine (cF.out _ hB).mono ?_
      rintro e' w1 ⟨rfl, hw1⟩
      have hB1 : Below w.heap.size w w1 := hB.trans (hw1.mono hB.size)
      have x1 : w1.cell? ⟨w.heap.size, 1, none⟩ = some (.slice pv m cv) := (hw1.cell (p := ⟨w.heap.size, 1, none⟩) ys).trans y1
      have xs : w.heap.size < w1.heap.size := Nat.lt_of_lt_of_le ys hw1.size
      clear cF y0 y1 z0 z1 hw1
      by_cases hI : I < 0
      · have hr4 : Hid (E = 90) := by have h := hr3.out; rwa [if_neg (by omega)] at h
        clear hr3
        go_upto_region 9 with fail
        go_quiet (fail)
        have K9 : Below w.heap.size w (w1.drewN nq) := bdrewX _ hB1
        go_wp2
        go_ret
        exact ⟨retE hr4.out rfl, K9⟩
      · obtain ⟨i, rfl⟩ : ∃ i : Nat, I = i := ⟨I.toNat, by omega⟩
        have hin : i < L.length := by have h := hbd.out (by omega); simpa using h
        have hi : i < n := by have := en.out; omega
        obtain ⟨b, off, u, rfl, hb, r0, r1, r2⟩ := HX.out i hin
        have a1 := (hB1.cell (p := ⟨b, off + i * 2 + 1, none⟩) hb).trans r1
        have hk2 : Hid (kindsAt L (i : Int) = L[i].kinds) := kindsAt_nat L i hin
        have lki := LK.out _ (List.getElem_mem hin)
        have hK1 : KAt w1 u L[i].kinds := r2.below hB1
        obtain ⟨F, eF⟩ : ∃ F : Bool, Hid (kfit L[i].kinds e.args = F) := ⟨kfit L[i].kinds e.args, (show _ = _ from rfl)⟩
        have hr4 : Hid (E = if F = true then 0 else 90) := by
          have h := hr3.out
          rw [hk2.out, eF.out] at h
          unfold Hid
          rw [h]
          simp
        obtain ⟨pk, ck, rfl, -⟩ := hK1.form
        have ct : Hid (∀ W : World, Below w1.heap.size w1 W → Calls Tryz.prog 71 #[.slice pk L[i].kinds.length ck, .slice pv m cv, .func (.func 72) #[] #[]] W fun e w' => e = .returned (.bool F) ∧ Below W.heap.size W w') := fun W hW => by
          have h := eqk_any _ (.slice pv m cv) L[i].kinds e.args W (hK1.below hW) (HV.out.below (hB1.trans (hW.mono hB1.size))) lki (by have := em.out; omega)
          rw [eF.out] at h
          exact h
        have hbl : b < w1.heap.size := Nat.lt_of_lt_of_le hb hB1.size
        have hnI : ¬ (i : Int) < 0 := by omega
        clear r0 r1 r2 hr3 hK1 eF hk2 hI
        generalize L[i].kinds.length = nk at a1 ct lki
        cases F with
        | true =>
          have hr5 : Hid (E = 0) := hr4.out
          clear hr4
          go_upto_region 9 with fail
          go_region_held3 (fun w' => w'.cell? ⟨b, off + i * 2 + 1, none⟩ = some (.slice pk nk ck) ∧ w'.cell? ⟨w.heap.size, 1, none⟩ = some (.slice pv m cv)) (exact ⟨bclX (n := w1.heap.size) (by go_grown) a1 hbl, bclX (n := w1.heap.size) (by go_grown) x1 xs⟩)
            (first
              | (go_at_call 71; refine (ct.out _ (by go_grown)).mono ?_; rintro e' w2 ⟨rfl, hb2⟩; obtain ⟨hB2, hn2⟩ := bgX (n := w1.heap.size) (W0 := w1) (by go_grown) (by go_size) hb2))
          all_goals
            have K9 : Below w.heap.size w w2 := hB1.trans (hB2.mono hB1.size)
            clear ct a1 x1 hB2 hn2 hb2
            go_wp2
            go_ret
            exact ⟨retE hr5.out rfl, K9⟩
        | false =>
          have hr5 : Hid (E = 90) := hr4.out
          clear hr4
          go_upto_region 9 with fail
          go_region_held3 (fun w' => w'.cell? ⟨b, off + i * 2 + 1, none⟩ = some (.slice pk nk ck) ∧ w'.cell? ⟨w.heap.size, 1, none⟩ = some (.slice pv m cv)) (exact ⟨bclX (n := w1.heap.size) (by go_grown) a1 hbl, bclX (n := w1.heap.size) (by go_grown) x1 xs⟩)
            (first
              | (go_at_call 71; refine (ct.out _ (by go_grown)).mono ?_; rintro e' w2 ⟨rfl, hb2⟩; obtain ⟨hB2, hn2⟩ := bgX (n := w1.heap.size) (W0 := w1) (by go_grown) (by go_size) hb2))
          all_goals
            have K9 : Below w.heap.size w w2 := hB1.trans (hB2.mono hB1.size)
            clear ct a1 x1 hB2 hn2 hb2
            go_wp2
            go_ret
            exact ⟨retE hr5.out rfl, K9⟩

set_option maxRecDepth 100000 in
set_option maxHeartbeats 4000000 in
theorem cpoint_any (A V : Value) (L : List Dec) (t : Int) (es : List Evt) (w : World) (hA : SigAt w A L) (hV : EvsAt w V es) (fx : ∀ e ∈ es, ∀ v ∈ e.args, v.Fits) (lL : L.length ≤ 9223372036854775807) (lk : ∀ d ∈ L, d.kinds.length ≤ 9223372036854775807) (lv : ∀ e ∈ es, e.args.length ≤ 9223372036854775807) (le : es.length ≤ 9223372036854775807) :
    Calls Tryz.prog 25 #[A, .agg #[.int .i64 t, V]] w fun r w' => r = .returned (errV (pointE L t es)) ∧ Below w.heap.size w w' := by
  have HA : Hid (SigAt w A L) := hA
  have cS : Hid (∀ W : World, Below w.heap.size w W → Calls Tryz.prog 26 #[A] W fun e w' => e = .returned (errV (sigE L)) ∧ Below W.heap.size W w') := fun W hW => csig_any A L W (hA.below hW) lL lk
  have cE : Hid (∀ (W : World) (U : Value) (e : Evt), Below w.heap.size w W → e ∈ es → RowAt W U e.args → Calls Tryz.prog 49 #[A, .agg #[.string e.name, U]] W fun r w' => r = .returned (errV (evtE L e)) ∧ Below W.heap.size W w') := fun W U e hW he hU => cevt_any A U L e W (hA.below hW) hU (fx e he) lL lk (lv e he)
  obtain ⟨pA, cA, rfl, -⟩ := hA.form
  obtain ⟨pv, cv, rfl, HY0⟩ := hV.form
  have HY : Hid (∀ i (hi : i < es.length), ∃ b off u, pv = some ⟨b, off, none⟩ ∧ b < w.heap.size ∧ w.cell? ⟨b, off + i * 2, none⟩ = some (.string es[i].name) ∧ w.cell? ⟨b, off + i * 2 + 1, none⟩ = some u ∧ RowAt w u es[i].args) := HY0
  have hp : Hid (pointE L t es = if sigE L = 0 then (if sizeE t es.length = 0 then evtsE L es else sizeE t es.length) else sigE L) := rfl
  clear hA hV HY0 HA fx lk lv
  obtain ⟨n, en⟩ : ∃ n : Nat, Hid (L.length = n) := ⟨_, rfl⟩
  obtain ⟨m, em⟩ : ∃ m : Nat, Hid (es.length = m) := ⟨_, rfl⟩
  obtain ⟨E, eE⟩ : ∃ E : Int, Hid (pointE L t es = E) := ⟨_, rfl⟩
  obtain ⟨C, eC⟩ : ∃ C : Int, Hid (sigE L = C) := ⟨_, rfl⟩
  obtain ⟨Z, eZ⟩ : ∃ Z : Int, Hid (sizeE t m = Z) := ⟨_, rfl⟩
  rw [en.out, eC.out] at cS
  rw [en.out] at cE lL
  rw [eE.out, em.out, eC.out, eZ.out] at hp
  rw [em.out] at le
  rw [eE.out, en.out, em.out]
  have cZ : Hid (∀ W : World, Calls Tryz.prog 48 #[.agg #[.int .i64 t, .slice pv m cv]] W fun e w' => e = .returned (errV Z) ∧ Below W.heap.size W w') := fun W => by
    have h := csize_any t pv m cv W
    rw [eZ.out] at h
    exact h
  go_enter Tryz.func25, Tryz.ntmps25
  by_cases hC : C = 0
  · have hp1 : Hid (E = if Z = 0 then evtsE L es else Z) := by have h := hp.out; rwa [if_pos hC] at h
    subst hC
    rw [errV_0] at cS
    go_wp2_with fail
    refine (cS.out _ (by go_grown)).mono ?_
    rintro e w1 ⟨rfl, hb1⟩
    have b0 : w1.cell? ⟨w.heap.size, 0, none⟩ = some (.int .i64 t) := (hb1.cell (p := ⟨w.heap.size, 0, none⟩) (by simp)).trans (by simp [go_sem])
    have b1 : w1.cell? ⟨w.heap.size, 1, none⟩ = some (.slice pv m cv) := (hb1.cell (p := ⟨w.heap.size, 1, none⟩) (by simp)).trans (by simp [go_sem])
    have hs1 : w.heap.size < w1.heap.size := by have := hb1.size; simp at this; omega
    obtain ⟨hB1, -⟩ := bgX (n := w.heap.size) (W0 := w) (by go_grown) (by go_size) hb1
    clear hb1 cS
    by_cases hZ : Z = 0
    · have hE : Hid (E = evtsE L es) := by have h := hp1.out; rwa [if_pos hZ] at h
      subst hZ
      rw [errV_0] at cZ
      go_wp2_with fail
      refine (cZ.out _).mono ?_
      rintro e w2 ⟨rfl, hb2⟩
      have c1 : w2.cell? ⟨w.heap.size, 1, none⟩ = some (.slice pv m cv) := (hb2.cell (p := ⟨w.heap.size, 1, none⟩) hs1).trans b1
      have hB2 : Below w.heap.size w w2 := hB1.trans (hb2.mono hB1.size)
      clear b0 b1 cZ hb2 hB1
      go_wp2
      go_loopw [23] (fun i wr => ∃ k : Nat, k ≤ m ∧ i = .int .i64 k ∧ Hid (E = evtsE L (es.drop k)) ∧ Below w.heap.size w wr) (fun i _ => m - (intOf i).toNat)
      case atStart => exact ⟨0, Nat.zero_le _, rfl, by rw [List.drop_zero]; exact hE, hB2⟩
      case round =>
        obtain ⟨k, hk, rfl, hr, hBw⟩ := hrel
        by_cases hlt : k < m
        · have kx : k < es.length := by have := em.out; omega
          obtain ⟨b, off, u, rfl, hb, r0, r1, r2⟩ := HY.out k kx
          have a0 := (hBw.cell (p := ⟨b, off + k * 2, none⟩) hb).trans r0
          have a1 := (hBw.cell (p := ⟨b, off + k * 2 + 1, none⟩) hb).trans r1
          have hr2 : Hid (E = if evtE L es[k] = 0 then evtsE L (es.drop (k + 1)) else evtE L es[k]) := by
            have h := hr.out
            rw [List.drop_eq_getElem_cons kx] at h
            exact h
          obtain ⟨D, eD⟩ : ∃ D : Int, Hid (evtE L es[k] = D) := ⟨evtE L es[k], (show _ = _ from rfl)⟩
          have ct : Hid (∀ W : World, Below wr.heap.size wr W → Calls Tryz.prog 49 #[.slice pA n cA, .agg #[.string es[k].name, u]] W fun r w' => r = .returned (errV D) ∧ Below W.heap.size W w') := fun W hW => by
            have hWw := hBw.trans (hW.mono hBw.size)
            have h := cE.out W u es[k] hWw (List.getElem_mem kx) (r2.below hWw)
            rw [eD.out] at h
            exact h
          rw [eD.out] at hr2
          obtain ⟨pu, cu, rfl, -⟩ := r2.formX
          have hbr : b < wr.heap.size := Nat.lt_of_lt_of_le hb hBw.size
          clear r0 r1 r2 hr eD
          generalize es[k].args.length = nk at a1 ct
          generalize es[k].name = X at a0 ct
          by_cases hD : D = 0
          · have hr3 : Hid (E = evtsE L (es.drop (k + 1))) := by have h := hr2.out; rwa [if_pos hD] at h
            subst hD
            rw [errV_0] at ct
            clear hr2
            go_wp2_with fail
            refine (ct.out _ (by go_grown)).mono ?_
            rintro e w3 ⟨rfl, hb3⟩
            obtain ⟨hB3, -⟩ := bgX (n := wr.heap.size) (W0 := wr) (by go_grown) (by go_size) hb3
            have K9 : Below w.heap.size w w3 := hBw.trans (hB3.mono hBw.size)
            clear ct a0 a1 hB3 hb3
            go_wp2
            exact ⟨⟨k + 1, by omega, by go_num, hr3, K9⟩, by simp [intOf]; omega⟩
          · have hr3 : Hid (E = D) := by have h := hr2.out; rwa [if_neg hD] at h
            have hd : Hid (errV D = .iface 92 (.agg #[.int .i64 D])) := errV_ne hD
            rw [hd.out] at ct
            clear hr2 hD
            go_wp2_with fail
            refine (ct.out _ (by go_grown)).mono ?_
            rintro e w3 ⟨rfl, hb3⟩
            obtain ⟨hB3, -⟩ := bgX (n := wr.heap.size) (W0 := wr) (by go_grown) (by go_size) hb3
            have K9 : Below w.heap.size w w3 := hBw.trans (hB3.mono hBw.size)
            clear ct a0 a1 hB3 hb3
            go_wp2
            go_ret
            exact ⟨retE hr3.out hd.out.symm, K9⟩
        · have c2 : ¬ (k : Int) < m := by omega
          have hr3 : Hid (E = 0) := by
            have h := hr.out
            rw [List.drop_eq_nil_of_le (by have := em.out; omega)] at h
            exact h
          go_wp2
          go_ret
          exact ⟨retE hr3.out rfl, hBw⟩
    · have hE : Hid (E = Z) := by have h := hp1.out; rwa [if_neg hZ] at h
      have hd : Hid (errV Z = .iface 92 (.agg #[.int .i64 Z])) := errV_ne hZ
      rw [hd.out] at cZ
      clear hZ
      go_wp2_with fail
      refine (cZ.out _).mono ?_
      rintro e w2 ⟨rfl, hb2⟩
      have hB2 : Below w.heap.size w w2 := hB1.trans (hb2.mono hB1.size)
      clear b0 b1 cZ hb2 hB1
      go_wp2
      go_ret
      exact ⟨retE hE.out hd.out.symm, hB2⟩
  · have hE : Hid (E = C) := by have h := hp.out; rwa [if_neg hC] at h
    have hd : Hid (errV C = .iface 92 (.agg #[.int .i64 C])) := errV_ne hC
    rw [hd.out] at cS
    clear hC
    go_wp2_with fail
    refine (cS.out _ (by go_grown)).mono ?_
    rintro e w1 ⟨rfl, hb1⟩
    obtain ⟨hB1, -⟩ := bgX (n := w.heap.size) (W0 := w) (by go_grown) (by go_size) hb1
    clear hb1 cS
    go_wp2
    go_ret
    exact ⟨retE hE.out hd.out.symm, hB1⟩

set_option maxRecDepth 100000 in
theorem checkpoint_any (A V : Value) (L : List Dec) (t : Int) (es : List Evt) (w : World) (hg : ErrT w) (hA : SigAt w A L) (hV : EvsAt w V es) (fx : ∀ e ∈ es, ∀ v ∈ e.args, v.Fits) (lL : L.length ≤ 9223372036854775807) (lk : ∀ d ∈ L, d.kinds.length ≤ 9223372036854775807) (lv : ∀ e ∈ es, e.args.length ≤ 9223372036854775807) (le : es.length ≤ 9223372036854775807) :
    Calls Tryz.prog 9 #[A, .agg #[.int .i64 t, V]] w fun r w' => r = .returned (.int .i64 (pointE L t es)) ∧ Below w.heap.size w w' := by
  have ct : Hid (∀ W : World, Below w.heap.size w W → Calls Tryz.prog 25 #[A, .agg #[.int .i64 t, V]] W fun e w' => e = .returned (errV (pointE L t es)) ∧ Below W.heap.size W w') := fun W hW => cpoint_any A V L t es W (hA.below hW) (hV.below hW) fx lL lk lv le
  obtain ⟨p, c, rfl, -⟩ := hA.form
  obtain ⟨pv, cv, rfl, -⟩ := hV.form
  generalize pointE L t es = E at *
  clear hA hV lk fx lv
  generalize L.length = n at *
  generalize es.length = m at *
  have cn : Hid (∀ W : World, ErrT W → Calls Tryz.prog 24 #[errV E] W fun r w' => r = .returned (.int .i64 E) ∧ Below W.heap.size W w') := fun W hW => tnumber_any E W hW
  generalize errV E = EV at *
  go_enter Tryz.func9, Tryz.ntmps9
  go_wp2_with fail
  refine (ct.out _ (by go_grown)).mono ?_
  rintro e w1 ⟨rfl, hw1⟩
  obtain ⟨hB1, -⟩ := bgX (n := w.heap.size) (W0 := w) (by go_grown) (by go_size) hw1
  clear ct hw1
  go_wp2_with fail
  refine (cn.out _ (hg.below hB1)).mono ?_
  rintro e w2 ⟨rfl, hw2⟩
  have K : Below w.heap.size w w2 := hB1.trans (hw2.mono hB1.size)
  clear cn hB1 hw2
  go_wp2
  go_ret
  exact ⟨rfl, K⟩

end Go.Proofs.YtgmmhgbodddadaaGreatDoor

namespace Go.Proofs.YtgmmhgbodddadaaGreatDoor
open Go.RowKit LX Go.Shelf
set_option linter.unusedVariables false

/-- Why events may not be told. -/
def wevsE : List Evt → Int
  | [] => 0
  | e :: l => if wevE e = 0 then wevsE l else wevE e
def evsT : List Evt → List UInt8
  | [] => []
  | e :: l => evtT e ++ evsT l
def evW (e : Evt) : Nat := 301 * e.args.length + e.name.size + 500
def evsW : List Evt → Nat
  | [] => 0
  | e :: l => evW e + evsW l
theorem evsT_snoc (l : List Evt) (v : Evt) : evsT (l ++ [v]) = evsT l ++ evtT v := by
  induction l with
  | nil => simp [evsT]
  | cons x l ih => simp only [List.cons_append, evsT, ih, List.append_assoc]
theorem evsW_snoc (l : List Evt) (v : Evt) : evsW (l ++ [v]) = evsW l + evW v := by
  induction l with
  | nil => simp [evsW]
  | cons x l ih => simp only [List.cons_append, evsW, ih]; omega
theorem evsW_app (l r : List Evt) : evsW (l ++ r) = evsW l + evsW r := by
  induction l with
  | nil => simp [evsW]
  | cons x l ih => simp only [List.cons_append, evsW, ih]; omega
theorem evsW_take (l : List Evt) (k : Nat) (h : k < l.length) : evsW (l.take k) + evW l[k] ≤ evsW l := by
  have e1 : l.take (k + 1) = l.take k ++ [l[k]] := List.take_succ_eq_append_getElem h
  have e2 : evsW l = evsW (l.take (k + 1)) + evsW (l.drop (k + 1)) := by rw [← evsW_app, List.take_append_drop]
  rw [e2, e1, evsW_snoc]
  omega
theorem wevE_vals {e : Evt} (h : wevE e = 0) : nameB e.name = true ∧ valsE e.args = 0 := by
  unfold wevE at h
  by_cases hn : nameB e.name = true
  · rw [if_pos hn] at h; exact ⟨hn, h⟩
  · rw [if_neg hn] at h; cases h
theorem evtT_len {e : Evt} (h : wevE e = 0) (fx : ∀ v ∈ e.args, v.Fits) : (evtT e).length ≤ evW e := by
  obtain ⟨-, hv⟩ := wevE_vals h
  have h1 := argsT_len e.args (fun v hm => ⟨valsE_all hv v hm, fx v hm⟩)
  have h2 : e.name.data.toList.length = e.name.size := by simp
  unfold evtT evW
  simp only [List.length_append, List.length_cons, List.length_nil]
  omega
theorem evsT_len {l : List Evt} (h : ∀ e ∈ l, wevE e = 0) (fx : ∀ e ∈ l, ∀ v ∈ e.args, v.Fits) : (evsT l).length ≤ evsW l := by
  induction l with
  | nil => simp [evsT]
  | cons x l ih =>
    have h1 := evtT_len (h x (by simp)) (fx x (by simp))
    have h2 := ih (fun v hv => h v (by simp [hv])) (fun v hv => fx v (by simp [hv]))
    simp only [evsT, evsW, List.length_append]
    omega
/-- A point's line, and why it has none. -/
def lineT (t : Int) (es : List Evt) : List UInt8 := (64 :: Lib.itoa t) ++ evsT es
def ppE (t : Int) (es : List Evt) : Int := if sizeE t es.length = 0 then (if wevsE es = 0 then (if 4096 < (lineT t es).length then 2 else 0) else wevsE es) else sizeE t es.length
def ppT (t : Int) (es : List Evt) : List UInt8 := if ppE t es = 0 then lineT t es else []
theorem sizeE_ok {t : Int} {n : Nat} (h : sizeE t n = 0) : 0 ≤ t ∧ t ≤ 1099511627776 ∧ n ≤ 64 := by
  unfold sizeE at h
  split at h
  · cases h
  · split at h
    · cases h
    · omega
theorem ret2 {s : ByteArray} {E n : Int} {v : Value} {l : List UInt8} (hs : (⟨l.toArray⟩ : ByteArray) = s) (h : E = n) (hv : v = errV n) : Ending.returned (.tuple #[.string s, v]) = .returned (.tuple #[.string ⟨l.toArray⟩, errV E]) := by rw [h, hv, hs]

set_option maxRecDepth 100000 in
set_option maxHeartbeats 8000000 in
theorem ptext_any (V : Value) (t : Int) (es : List Evt) (w : World) (t1 : -9223372036854775808 ≤ t) (t2 : t ≤ 9223372036854775807) (hV : EvsAt w V es) (ht : Pow w) (fx : ∀ e ∈ es, ∀ v ∈ e.args, v.Fits) (lv : ∀ e ∈ es, e.args.length ≤ 9223372036854775807) (le : es.length ≤ 9223372036854775807) (hl : evsW es + 1000 ≤ 140737488355328) :
    Calls Tryz.prog 44 #[.agg #[.int .i64 t, V]] w fun r w' => r = .returned (.tuple #[.string ⟨(ppT t es).toArray⟩, errV (ppE t es)]) ∧ Below w.heap.size w w' := by
  obtain ⟨pv, cv, rfl, HY0⟩ := hV.form
  have HY : Hid (∀ i (hi : i < es.length), ∃ b off u, pv = some ⟨b, off, none⟩ ∧ b < w.heap.size ∧ w.cell? ⟨b, off + i * 2, none⟩ = some (.string es[i].name) ∧ w.cell? ⟨b, off + i * 2 + 1, none⟩ = some u ∧ RowAt w u es[i].args) := HY0
  have HT : Hid (Pow w) := ht
  have hp : Hid (ppE t es = if sizeE t es.length = 0 then (if wevsE es = 0 then (if 4096 < (lineT t es).length then 2 else 0) else wevsE es) else sizeE t es.length) := rfl
  have hq : Hid (ppT t es = if ppE t es = 0 then lineT t es else []) := rfl
  have lI := Lib.itoa_length_le t t1 t2
  clear hV HY0 ht
  obtain ⟨m, em⟩ : ∃ m : Nat, Hid (es.length = m) := ⟨_, rfl⟩
  obtain ⟨E, eE⟩ : ∃ E : Int, Hid (ppE t es = E) := ⟨_, rfl⟩
  obtain ⟨Q, eQ⟩ : ∃ Q : List UInt8, Hid (ppT t es = Q) := ⟨_, rfl⟩
  obtain ⟨Z, eZ⟩ : ∃ Z : Int, Hid (sizeE t m = Z) := ⟨_, rfl⟩
  rw [eE.out, em.out, eZ.out] at hp
  rw [eE.out, eQ.out] at hq
  rw [em.out] at le
  rw [eE.out, eQ.out, em.out]
  have cZ : Hid (∀ W : World, Calls Tryz.prog 48 #[.agg #[.int .i64 t, .slice pv m cv]] W fun e w' => e = .returned (errV Z) ∧ Below W.heap.size W w') := fun W => by
    have h := csize_any t pv m cv W
    rw [eZ.out] at h
    exact h
  go_enter Tryz.func44, Tryz.ntmps44
  by_cases hZ : Z = 0
  · have hp1 : Hid (E = if wevsE es = 0 then (if 4096 < (lineT t es).length then 2 else 0) else wevsE es) := by have h := hp.out; rwa [if_pos hZ] at h
    have h64 : m ≤ 64 := (sizeE_ok (eZ.out.trans hZ)).2.2
    subst hZ
    rw [errV_0] at cZ
    obtain ⟨A, eA⟩ : ∃ A : ByteArray, Hid (⟨(Lib.itoa t).toArray⟩ = A) := ⟨_, rfl⟩
    obtain ⟨S, eS⟩ : ∃ S : ByteArray, Hid (S = (⟨#[64]⟩ : ByteArray) ++ A) := ⟨_, rfl⟩
    have sA : A.size ≤ 21 := by rw [← eA.out]; show (Lib.itoa t).toArray.size ≤ 21; simpa using lI
    have x1 : ∀ W : World, (Op.stringOp .add ⟨#[64]⟩ A).run Tryz.prog W = .ok (.string S) W := fun W => by
      rw [run_string_add_sum W _ _ (by have : (⟨#[64]⟩ : ByteArray).size = 1 := rfl
                                       omega), eS.out]
    have sS : S.size ≤ 22 := by
      rw [eS.out, ByteArray.size_append]
      have : (⟨#[64]⟩ : ByteArray).size = 1 := rfl
      omega
    have lS : Hid (S.data.toList = 64 :: Lib.itoa t) := by unfold Hid; rw [eS.out, ← eA.out]; simp
    have cI : Hid (∀ W : World, Pow W → Calls Tryz.prog 60 #[.int .i64 t, .int .i64 10] W fun e w' => e = .returned (.string A) ∧ Below W.heap.size W w') := fun W hW => by
      refine (Tryz.strconv_FormatInt_10 t t1 t2 W hW).mono ?_
      rintro e w1 ⟨rfl, k, os, rfl⟩
      rw [eA.out]
      exact ⟨rfl, below_grow W k os⟩
    go_wp2_with fail
    refine (cZ.out _).mono ?_
    rintro e w1 ⟨rfl, hb1⟩
    have b0 : w1.cell? ⟨w.heap.size, 0, none⟩ = some (.int .i64 t) := (hb1.cell (p := ⟨w.heap.size, 0, none⟩) (by simp)).trans (by simp [go_sem])
    have b1 : w1.cell? ⟨w.heap.size, 1, none⟩ = some (.slice pv m cv) := (hb1.cell (p := ⟨w.heap.size, 1, none⟩) (by simp)).trans (by simp [go_sem])
    have hs1 : w.heap.size < w1.heap.size := by have := hb1.size; simp at this; omega
    obtain ⟨hB1, -⟩ := bgX (n := w.heap.size) (W0 := w) (by go_grown) (by go_size) hb1
    clear hb1 cZ
    go_wp2_with fail
    refine (cI.out _ (HT.out.below (hB1.trans (Below.mono (B := w1.heap.size) (by go_grown) hB1.size)))).mono ?_
    rintro e w2 ⟨rfl, hb2⟩
    have HB2 : Hid (Bld w1.heap.size w1.heap.size [] w2) := by
      have h0 : Bld w1.heap.size w1.heap.size [] (w1.alloc (.cells #[.pointer none, .slice none 0 0] 62)) := Lib.fresh_isBuilder _ _ w1
      exact h0.below hb2
    have hs2 : w1.heap.size < w2.heap.size := by have := hb2.size; simp at this; omega
    have c1 : w2.cell? ⟨w.heap.size, 1, none⟩ = some (.slice pv m cv) := (hb2.cell (p := ⟨w.heap.size, 1, none⟩) (by simp; omega)).trans (by rw [World.cell?_alloc_lt _ _ ⟨w.heap.size, 1, none⟩ hs1]; exact b1)
    obtain ⟨hB2, -⟩ := bgX (n := w1.heap.size) (W0 := w1) (by go_grown) (by go_size) hb2
    clear hb2 cI b0 b1
    go_wp2_with fail
    refine (wsB w1.heap.size w1.heap.size [] S _ HB2.out (by simp; omega) (by omega)).mono ?_
    rintro e w3 ⟨rfl, hb3, hB3, -⟩
    have d1 : w3.cell? ⟨w.heap.size, 1, none⟩ = some (.slice pv m cv) := (hB3.cell (p := ⟨w.heap.size, 1, none⟩) hs1).trans c1
    have K3 : Below w1.heap.size w1 w3 := hB2.trans hB3
    have HB3 : Hid (Bld w1.heap.size w1.heap.size (64 :: Lib.itoa t) w3) := by rw [← lS.out]; exact hb3
    have hs3 : w1.heap.size < w3.heap.size := Nat.lt_of_lt_of_le hs2 hB3.size
    clear hb3 hB3 hB2 HB2 c1 x1
    go_wp2
    go_loopw [22] (fun i wr => ∃ k : Nat, k ≤ m ∧ i = .int .i64 k ∧ Hid (wevsE es = wevsE (es.drop k)) ∧ Hid (∀ v ∈ es.take k, wevE v = 0) ∧ Hid (Bld w1.heap.size w1.heap.size ((64 :: Lib.itoa t) ++ evsT (es.take k)) wr) ∧ Below w1.heap.size w1 wr) (fun i _ => m - (intOf i).toNat)
    case atStart => exact ⟨0, Nat.zero_le _, rfl, by rw [List.drop_zero]; exact (show wevsE es = wevsE es from rfl), (fun v hv => by simp at hv), by simpa [evsT, Hid] using HB3.out, K3⟩
    case round =>
      obtain ⟨k, hk, rfl, hr, hok, hbl, hBw⟩ := hrel
      have lT : (evsT (es.take k)).length ≤ evsW (es.take k) := evsT_len hok.out (fun e he => fx e (List.mem_of_mem_take he))
      have lG : ((64 :: Lib.itoa t) ++ evsT (es.take k)).length ≤ evsW (es.take k) + 22 := by
        rw [List.length_append, List.length_cons]
        omega
      have hBww : Below w.heap.size w wr := hB1.trans (hBw.mono hB1.size)
      by_cases hlt : k < m
      · have kx : k < es.length := by have := em.out; omega
        obtain ⟨b, off, u, rfl, hb, r0, r1, r2⟩ := HY.out k kx
        have a0 := (hBww.cell (p := ⟨b, off + k * 2, none⟩) hb).trans r0
        have a1 := (hBww.cell (p := ⟨b, off + k * 2 + 1, none⟩) hb).trans r1
        have hr2 : Hid (wevsE es = if wevE es[k] = 0 then wevsE (es.drop (k + 1)) else wevE es[k]) := by
          have h := hr.out
          rw [List.drop_eq_getElem_cons kx] at h
          exact h
        have hbl2 : Hid (∀ W, Bld w1.heap.size w1.heap.size ((64 :: Lib.itoa t) ++ evsT (es.take k) ++ evtT es[k]) W → Bld w1.heap.size w1.heap.size ((64 :: Lib.itoa t) ++ evsT (es.take (k + 1))) W) := fun W h => by
          rw [List.take_succ_eq_append_getElem kx, evsT_snoc, ← List.append_assoc]
          exact h
        have hok2 : Hid (wevE es[k] = 0 → ∀ v ∈ es.take (k + 1), wevE v = 0) := fun hz v hv => by
          rw [List.take_succ_eq_append_getElem kx] at hv
          rcases List.mem_append.1 hv with hv | hv
          · exact hok.out v hv
          · rw [List.mem_singleton] at hv; rw [hv]; exact hz
        have hwk := evsW_take es k kx
        obtain ⟨D, eD⟩ : ∃ D : Int, Hid (wevE es[k] = D) := ⟨wevE es[k], (show _ = _ from rfl)⟩
        have HBL : Hid (Bld w1.heap.size w1.heap.size ((64 :: Lib.itoa t) ++ evsT (es.take k)) wr) := hbl
        have ct : Hid (∀ W : World, Below wr.heap.size wr W → Calls Tryz.prog 61 #[.pointer (some ⟨w1.heap.size, 0, none⟩), .agg #[.string es[k].name, u]] W fun r w' => r = .returned (errV D) ∧ Below w1.heap.size W w' ∧ (D = 0 → Bld w1.heap.size w1.heap.size ((64 :: Lib.itoa t) ++ evsT (es.take k) ++ evtT es[k]) w')) := fun W hW => by
          have h := wev_any w1.heap.size w1.heap.size ((64 :: Lib.itoa t) ++ evsT (es.take k)) es[k] u w W (hBww.trans (hW.mono hBww.size)) (Nat.le_of_lt hs1) (Nat.le_trans hBw.size hW.size) (HBL.out.below hW) r2 HT.out (fx _ (List.getElem_mem kx)) (lv _ (List.getElem_mem kx)) (by unfold evW at hwk; omega)
          rw [eD.out] at h
          exact h
        rw [eD.out] at hr2 hok2
        obtain ⟨pu, cu, rfl, -⟩ := r2.formX
        clear r0 r1 r2 hr eD hok hbl HBL lG lT
        generalize es[k].args.length = nk at a1 ct
        generalize (64 :: Lib.itoa t) ++ evsT (es.take k) ++ evtT es[k] = G at ct hbl2
        generalize es[k].name = X at a0 ct
        by_cases hD : D = 0
        · have hr3 : Hid (wevsE es = wevsE (es.drop (k + 1))) := by have h := hr2.out; rwa [if_pos hD] at h
          have hok3 : Hid (∀ v ∈ es.take (k + 1), wevE v = 0) := hok2.out hD
          subst hD
          rw [errV_0] at ct
          clear hr2 hok2
          go_wp2_with fail
          refine (ct.out _ (by go_grown)).mono ?_
          rintro e w4 ⟨rfl, hb4, hg4⟩
          have K4 : Below w1.heap.size w1 w4 := hBw.trans (Below.trans (Below.mono (B := wr.heap.size) (by go_grown) hBw.size) hb4)
          have HB4 : Hid (Bld w1.heap.size w1.heap.size ((64 :: Lib.itoa t) ++ evsT (es.take (k + 1))) w4) := hbl2.out w4 (hg4 (by first | trivial | rfl))
          clear ct a0 a1 hb4 hg4 hbl2
          go_wp2
          exact ⟨⟨k + 1, by omega, by go_num, hr3, hok3, HB4, K4⟩, by simp [intOf]; omega⟩
        · have hr3 : Hid (wevsE es = D) := by have h := hr2.out; rwa [if_neg hD] at h
          have hE : Hid (E = D) := by
            have h := hp1.out
            rw [hr3.out, if_neg hD] at h
            exact h
          have hQ : Hid (Q = []) := by have h := hq.out; rwa [if_neg (by rw [hE.out]; exact hD)] at h
          have hd : Hid (errV D = .iface 92 (.agg #[.int .i64 D])) := errV_ne hD
          rw [hd.out] at ct
          clear hr2 hD hok2
          go_wp2_with fail
          refine (ct.out _ (by go_grown)).mono ?_
          rintro e w4 ⟨rfl, hb4, -⟩
          have K4 : Below w1.heap.size w1 w4 := hBw.trans (Below.trans (Below.mono (B := wr.heap.size) (by go_grown) hBw.size) hb4)
          have K5 : Below w.heap.size w w4 := hB1.trans (K4.mono hB1.size)
          clear ct a0 a1 hb4 hbl2
          go_wp2
          go_ret2
          exact ⟨ret2 (by rw [hQ.out]) hE.out hd.out.symm, K5⟩
      · have c2 : ¬ (k : Int) < m := by omega
        have hr3 : Hid (wevsE es = 0) := by
          have h := hr.out
          rw [List.drop_eq_nil_of_le (by have := em.out; omega)] at h
          exact h
        have hall : es.take k = es := List.take_of_length_le (by have := em.out; omega)
        rw [hall] at hbl
        have HBL : Hid (Bld w1.heap.size w1.heap.size (lineT t es) wr) := hbl
        have hE1 : Hid (E = if 4096 < (lineT t es).length then 2 else 0) := by have h := hp1.out; rwa [if_pos hr3.out] at h
        have cL : Hid (Calls Tryz.prog 62 #[.pointer (some ⟨w1.heap.size, 0, none⟩)] wr fun e w' => e = .returned (.int .i64 (lineT t es).length) ∧ w' = wr) := by
          have h := Tryz.Builder_Len w1.heap.size w1.heap.size _ wr HBL.out
          rw [Lib.byteCells_length] at h
          exact h
        have cT : Hid (Calls Tryz.prog 32 #[.pointer (some ⟨w1.heap.size, 0, none⟩)] wr fun e w' => e = .returned (.string ⟨(lineT t es).toArray⟩) ∧ Below w1.heap.size wr w') := Tryz.Builder_String_any w1.heap.size w1.heap.size _ wr HBL.out hBw.size
        clear hbl hall lT lG hr hok HBL
        generalize hN : (lineT t es).length = N at cL hE1
        have hN' : Hid ((lineT t es).length = N) := hN
        clear hN
        generalize lineT t es = LT at cT hq hN'
        by_cases h4 : 4096 < N
        · have hE : Hid (E = 2) := by have h := hE1.out; rwa [if_pos h4] at h
          have hQ : Hid (Q = []) := by have h := hq.out; rwa [if_neg (by rw [hE.out]; decide)] at h
          have h4' : (4096 : Int) < N := by omega
          go_wp2_with fail
          refine cL.out.mono ?_
          rintro e w4 ⟨rfl, rfl⟩
          clear cL cT
          go_wp2
          go_ret2
          exact ⟨ret2 (by rw [hQ.out]) hE.out rfl, hBww⟩
        · have hE : Hid (E = 0) := by have h := hE1.out; rwa [if_neg h4] at h
          have hQ : Hid (Q = LT) := by have h := hq.out; rwa [if_pos hE.out] at h
          have h4' : ¬ (4096 : Int) < N := by omega
          go_wp2_with fail
          refine cL.out.mono ?_
          rintro e w4 ⟨rfl, rfl⟩
          clear cL
          go_wp2_with fail
          refine cT.out.mono ?_
          rintro e w5 ⟨rfl, hb5⟩
          have K5 : Below w.heap.size w w5 := hBww.trans (hb5.mono (Nat.le_of_lt hs1))
          clear cT hb5
          go_wp2
          go_ret2
          exact ⟨ret2 (by rw [hQ.out]) hE.out rfl, K5⟩
  · have hE : Hid (E = Z) := by have h := hp.out; rwa [if_neg hZ] at h
    have hQ : Hid (Q = []) := by have h := hq.out; rwa [if_neg (by rw [hE.out]; exact hZ)] at h
    have hd : Hid (errV Z = .iface 92 (.agg #[.int .i64 Z])) := errV_ne hZ
    rw [hd.out] at cZ
    clear hZ
    go_wp2_with fail
    refine (cZ.out _).mono ?_
    rintro e w1 ⟨rfl, hb1⟩
    obtain ⟨hB1, -⟩ := bgX (n := w.heap.size) (W0 := w) (by go_grown) (by go_size) hb1
    clear hb1 cZ
    go_wp2
    go_ret2
    exact ⟨ret2 (by rw [hQ.out]) hE.out hd.out.symm, hB1⟩

set_option maxRecDepth 100000 in
theorem ppoint_any (V : Value) (t : Int) (es : List Evt) (w : World) (hg : ErrT w) (t1 : -9223372036854775808 ≤ t) (t2 : t ≤ 9223372036854775807) (hV : EvsAt w V es) (ht : Pow w) (fx : ∀ e ∈ es, ∀ v ∈ e.args, v.Fits) (lv : ∀ e ∈ es, e.args.length ≤ 9223372036854775807) (le : es.length ≤ 9223372036854775807) (hl : evsW es + 1000 ≤ 140737488355328) :
    Calls Tryz.prog 22 #[.agg #[.int .i64 t, V]] w fun r w' => r = .returned (.tuple #[.string ⟨(ppT t es).toArray⟩, .int .i64 (ppE t es)]) ∧ Below w.heap.size w w' := by
  have ct : Hid (∀ W : World, Below w.heap.size w W → Calls Tryz.prog 44 #[.agg #[.int .i64 t, V]] W fun r w' => r = .returned (.tuple #[.string ⟨(ppT t es).toArray⟩, errV (ppE t es)]) ∧ Below W.heap.size W w') := fun W hW => ptext_any V t es W t1 t2 (hV.below hW) (ht.below hW) fx lv le hl
  obtain ⟨pv, cv, rfl, -⟩ := hV.form
  generalize (⟨(ppT t es).toArray⟩ : ByteArray) = Q at *
  generalize ppE t es = E at *
  clear hV fx lv hl
  generalize es.length = m at *
  have cn : Hid (∀ W : World, ErrT W → Calls Tryz.prog 24 #[errV E] W fun r w' => r = .returned (.int .i64 E) ∧ Below W.heap.size W w') := fun W hW => tnumber_any E W hW
  generalize errV E = EV at *
  go_enter Tryz.func22, Tryz.ntmps22
  go_wp2_with fail
  refine (ct.out _ (by go_grown)).mono ?_
  rintro e w1 ⟨rfl, hw1⟩
  obtain ⟨hB1, -⟩ := bgX (n := w.heap.size) (W0 := w) (by go_grown) (by go_size) hw1
  clear ct hw1
  go_wp2_with fail
  refine (cn.out _ (hg.below hB1)).mono ?_
  rintro e w2 ⟨rfl, hw2⟩
  have K : Below w.heap.size w w2 := hB1.trans (hw2.mono hB1.size)
  clear cn hB1 hw2
  go_wp2
  go_ret2
  exact ⟨rfl, K⟩

end Go.Proofs.YtgmmhgbodddadaaGreatDoor

namespace Go.Proofs.YtgmmhgbodddadaaGreatDoor
open Go.RowKit LX Go.Shelf
set_option linter.unusedVariables false

/-- Texts where they lie. -/
def StrAt (w : World) (v : Value) (vs : List (List UInt8)) : Prop := ∃ b c, v = .slice (some ⟨b, 0, none⟩) vs.length c ∧ b < w.heap.size ∧ ∀ i (h : i < vs.length), w.cell? ⟨b, i, none⟩ = some (.string ⟨vs[i].toArray⟩)
set_option maxRecDepth 100000 in
theorem words_any (w : World) :
    Calls Tryz.prog 51 #[] w fun e w' => e = .returned (.slice (some ⟨w.heap.size, 0, none⟩) 23 23) ∧ Below w.heap.size w w' ∧ StrAt w' (.slice (some ⟨w.heap.size, 0, none⟩) 23 23) resv := by
  go_enter Tryz.func51, Tryz.ntmps51
  go_wp2
  go_ret
  refine ⟨rfl, by go_grown, w.heap.size, 23, rfl, by simp, fun i hi => ?_⟩
  rw [World.cell?_alloc_at _ _ _ _ rfl]
  have hall : ∀ i : Fin 23, (#[.string ⟨#[116, 114, 117, 101]⟩, .string ⟨#[102, 97, 108, 115, 101]⟩, .string ⟨#[110, 111, 116]⟩, .string ⟨#[97, 110, 100]⟩, .string ⟨#[111, 114]⟩, .string ⟨#[101, 120, 105, 115, 116, 115]⟩, .string ⟨#[112, 114, 101, 118]⟩, .string ⟨#[110, 101, 120, 116]⟩, .string ⟨#[111, 110, 99, 101]⟩, .string ⟨#[115, 111, 111, 110]⟩, .string ⟨#[115, 105, 110, 99, 101]⟩, .string ⟨#[117, 110, 116, 105, 108]⟩, .string ⟨#[98, 101, 102, 111, 114, 101]⟩, .string ⟨#[97, 102, 116, 101, 114]⟩, .string ⟨#[97, 103, 103]⟩, .string ⟨#[108, 101, 116]⟩, .string ⟨#[108, 101, 116, 112, 97, 115, 116]⟩, .string ⟨#[106, 111, 105, 110]⟩, .string ⟨#[97, 110, 121]⟩, .string ⟨#[116, 101, 115, 116]⟩, .string ⟨#[97, 108, 116]⟩, .string ⟨#[115, 101, 113]⟩, .string ⟨#[115, 116, 97, 114]⟩] : Array Value)[i.1]? = some (.string ⟨(resv[i.1]'i.2).toArray⟩) := by
    intro i
    match i with
    | ⟨0, _⟩ => rfl
    | ⟨1, _⟩ => rfl
    | ⟨2, _⟩ => rfl
    | ⟨3, _⟩ => rfl
    | ⟨4, _⟩ => rfl
    | ⟨5, _⟩ => rfl
    | ⟨6, _⟩ => rfl
    | ⟨7, _⟩ => rfl
    | ⟨8, _⟩ => rfl
    | ⟨9, _⟩ => rfl
    | ⟨10, _⟩ => rfl
    | ⟨11, _⟩ => rfl
    | ⟨12, _⟩ => rfl
    | ⟨13, _⟩ => rfl
    | ⟨14, _⟩ => rfl
    | ⟨15, _⟩ => rfl
    | ⟨16, _⟩ => rfl
    | ⟨17, _⟩ => rfl
    | ⟨18, _⟩ => rfl
    | ⟨19, _⟩ => rfl
    | ⟨20, _⟩ => rfl
    | ⟨21, _⟩ => rfl
    | ⟨22, _⟩ => rfl
    | ⟨n + 23, h⟩ => exact absurd h (by omega)
  exact hall ⟨i, hi⟩

theorem contains_drop (x : List UInt8) (L : List (List UInt8)) (k : Nat) (h : k < L.length) : (L.drop k).contains x = (L[k] == x || (L.drop (k + 1)).contains x) := by
  rw [List.drop_eq_getElem_cons h, List.contains_cons]
  congr 1
  exact BEq.comm

set_option maxRecDepth 100000 in
set_option maxHeartbeats 1000000 in
theorem rhas_any (V : Value) (L : List (List UInt8)) (x : ByteArray) (w : World) (hV : StrAt w V L) (lL : L.length ≤ 1000000) :
    Calls Tryz.prog 52 #[V, .string x] w fun e w' => e = .returned (.bool (L.contains x.data.toList)) ∧ w' = w := by
  obtain ⟨b, c, rfl, hb, hc⟩ := hV
  have HC : Hid (∀ i (h : i < L.length), w.cell? ⟨b, i, none⟩ = some (.string ⟨L[i].toArray⟩)) := hc
  clear hc
  obtain ⟨n, en⟩ : ∃ n : Nat, Hid (L.length = n) := ⟨_, rfl⟩
  rw [en.out] at lL ⊢
  obtain ⟨R, eR⟩ : ∃ R : Bool, Hid (L.contains x.data.toList = R) := ⟨_, rfl⟩
  rw [eR.out]
  go_enter Tryz.func52, Tryz.ntmps52
  go_wp2
  go_loop [5] (fun i => ∃ k : Nat, k ≤ n ∧ i = .int .i64 k ∧ Hid (R = (L.drop k).contains x.data.toList)) (fun i => n - (intOf i).toNat)
  case atStart => exact ⟨0, Nat.zero_le _, rfl, by rw [List.drop_zero]; exact eR.out.symm⟩
  case round =>
    obtain ⟨k, hk, rfl, hr⟩ := hrel
    by_cases hlt : k < n
    · have kx : k < L.length := by have := en.out; omega
      have a0 := HC.out k kx
      have hr2 : Hid (R = (L[k] == x.data.toList || (L.drop (k + 1)).contains x.data.toList)) := by
        have h := hr.out
        rw [contains_drop _ _ _ kx] at h
        exact h
      have hlt' : (k : Int) < n := by omega
      clear hr
      generalize L[k] = y at a0 hr2
      by_cases hy : y = x.data.toList
      · have hr3 : Hid (R = true) := by unfold Hid; have h := hr2.out; rw [hy] at h; simpa using h
        have hq : ((⟨y.toArray⟩ : ByteArray).toList == x.toList) = true := by rw [ByteArray.toList_eq, ByteArray.toList_eq]; simpa using hy
        generalize (⟨y.toArray⟩ : ByteArray) = Y at a0 hq
        clear hr2 hy
        go_wp2
        go_ret
        exact ⟨retb hr3.out.symm, rfl⟩
      · have hr3 : Hid (R = (L.drop (k + 1)).contains x.data.toList) := by
          have h := hr2.out
          rw [beq_eq_false_iff_ne.mpr hy, Bool.false_or] at h
          exact h
        have hq : ((⟨y.toArray⟩ : ByteArray).toList == x.toList) = false := by rw [ByteArray.toList_eq, ByteArray.toList_eq]; simpa using hy
        generalize (⟨y.toArray⟩ : ByteArray) = Y at a0 hq
        clear hr2 hy
        go_wp2
        exact ⟨⟨k + 1, by omega, by go_num, hr3⟩, by simp [intOf]; omega⟩
    · have c2 : ¬ (k : Int) < n := by omega
      have hr3 : Hid (R = false) := by
        have h := hr.out
        rw [List.drop_eq_nil_of_le (by have := en.out; omega)] at h
        exact h
      go_wp2
      go_ret
      exact ⟨retb hr3.out.symm, rfl⟩

theorem nameL_no (l : List UInt8) (h : inAll l = false) : nameL l = false := by unfold nameL; rw [h, Bool.and_false]
theorem nameL_yes {l : List UInt8} (h1 : 1 ≤ l.length) (h2 : l.length ≤ 16) (h3 : lowN (hd l) = true) (h4 : inAll l = true) : nameL l = !resv.contains l := by
  unfold nameL
  rw [h3, h4, decide_eq_true h1, decide_eq_true h2]
  simp

set_option maxHeartbeats 4000000 in
set_option maxRecDepth 100000 in
theorem rname_any (s : ByteArray) (w : World) :
    Calls Tryz.prog 27 #[.string s] w fun e w' => e = .returned (.bool (nameB s)) ∧ Below w.heap.size w w' := by
  have hl : s.data.toList.length = s.size := by simp
  obtain ⟨R, eR⟩ : ∃ R : Bool, Hid (nameB s = R) := ⟨_, rfl⟩
  rw [eR.out]
  by_cases h0 : s.size = 0
  · have hn : Hid (R = false) := by
      rw [← eR.out]
      have hs : s = ⟨#[]⟩ := of_list (l := []) (List.eq_nil_of_length_eq_zero (by omega))
      rw [hs]
      rfl
    have h0' : (s.size : Int) < 1 := by omega
    go_enter Tryz.func27, Tryz.ntmps27
    go_wp2
    go_ret
    exact ⟨retb hn.out.symm, Below.refl _ _⟩
  have h0' : ¬ (s.size : Int) < 1 := by omega
  by_cases h1 : 16 < s.size
  · have hn : Hid (R = false) := by
      rw [← eR.out]
      unfold Hid nameB
      cases h : nameL s.data.toList with
      | false => rfl
      | true => exact absurd (nameL_len h) (by omega)
    have h1' : (16 : Int) < s.size := by omega
    go_enter Tryz.func27, Tryz.ntmps27
    go_wp2
    go_ret
    exact ⟨retb hn.out.symm, Below.refl _ _⟩
  have h1' : ¬ (16 : Int) < s.size := by omega
  have hp : 0 < s.size := by omega
  have hp' : (0 : Int) < s.size := by omega
  have hh : hd s.data.toList = s[0].toNat := by simpa using hd_drop s 0 hp
  by_cases hb : lowN (hd s.data.toList) = true
  · have hb1 : 97 ≤ s[0].toNat ∧ s[0].toNat ≤ 122 := by rw [hh] at hb; unfold lowN at hb; simpa using hb
    have b1 : ¬ ((s[0].toNat : Nat) : Int) < 97 := by omega
    have b2 : ¬ (122 : Int) < ((s[0].toNat : Nat) : Int) := by omega
    have HY : Hid (inAll s.data.toList = true → R = !resv.contains s.data.toList) := fun h => by rw [← eR.out]; exact nameL_yes (by omega) (by omega) hb h
    have HN : Hid (inAll s.data.toList = false → R = false) := fun h => by rw [← eR.out]; exact nameL_no _ h
    have cW : Hid (∀ W : World, Calls Tryz.prog 51 #[] W fun e w' => e = .returned (.slice (some ⟨W.heap.size, 0, none⟩) 23 23) ∧ Below W.heap.size W w' ∧ StrAt w' (.slice (some ⟨W.heap.size, 0, none⟩) 23 23) resv) := fun W => words_any W
    clear hb hb1 hh eR hl
    go_enter Tryz.func27, Tryz.ntmps27
    go_wp2
    go_loop [3] (fun i => ∃ k : Nat, k ≤ s.size ∧ i = .int .i64 k ∧ Hid (inAll s.data.toList = inAll (s.data.toList.drop k))) (fun i => s.size - (intOf i).toNat)
    case atStart => exact ⟨0, Nat.zero_le _, rfl, by rw [List.drop_zero]; exact (show inAll s.data.toList = inAll s.data.toList from rfl)⟩
    case round =>
      obtain ⟨k, hk, rfl, hrr⟩ := hrel
      by_cases hlt : k < s.size
      · have hd1 : s.data.toList.drop k = s[k] :: s.data.toList.drop (k + 1) := by
          rw [List.drop_eq_getElem_cons (by simpa using hlt)]
          rfl
        have hr2 : Hid (inAll s.data.toList = (inwN s[k].toNat && inAll (s.data.toList.drop (k + 1)))) := by
          have h := hrr.out
          rw [hd1] at h
          exact h
        have hlt' : (k : Int) < s.size := by omega
        have hC := s[k].toNat_lt
        clear hrr hd1
        obtain ⟨c, ec⟩ : ∃ c : Nat, Hid (s[k].toNat = c) := ⟨s[k].toNat, (show _ = _ from rfl)⟩
        rw [ec.out] at hr2 hC
        have ec2 := ec.out
        by_cases hI : inwN c = true
        · have hr3 : Hid (inAll s.data.toList = inAll (s.data.toList.drop (k + 1))) := by
            have h := hr2.out
            rw [hI, Bool.true_and] at h
            exact h
          have hx : (97 ≤ c ∧ c ≤ 122) ∨ ((48 ≤ c ∧ c ≤ 57) ∨ c = 95) := by
            unfold inwN lowN digN at hI
            simp at hI
            omega
          clear hI hr2
          rcases hx with ⟨x1, x2⟩ | ⟨x1, x2⟩ | x3
          · have y1 : ¬ (c : Int) < 97 := by omega
            have y2 : ¬ (122 : Int) < c := by omega
            go_wp2
            exact ⟨⟨k + 1, by omega, by go_num, hr3⟩, by simp [intOf]; omega⟩
          · have y1 : (c : Int) < 97 := by omega
            have y2 : ¬ (c : Int) < 48 := by omega
            have y3 : ¬ (57 : Int) < c := by omega
            go_wp2
            exact ⟨⟨k + 1, by omega, by go_num, hr3⟩, by simp [intOf]; omega⟩
          · subst x3
            go_wp2
            exact ⟨⟨k + 1, by omega, by go_num, hr3⟩, by simp [intOf]; omega⟩
        · have hI' : inwN c = false := by simpa using hI
          have hr3 : Hid (R = false) := HN.out (by have h := hr2.out; rw [hI', Bool.false_and] at h; exact h)
          have hx : (c < 97 ∨ 122 < c) ∧ (c < 48 ∨ 57 < c) ∧ c ≠ 95 := by
            unfold inwN lowN digN at hI'
            simp at hI'
            omega
          have y3 : ((c : Int) == 95) = false := by simp; omega
          clear hI hI' hr2
          obtain ⟨hx1, hx2, -⟩ := hx
          rcases hx1 with x1 | x1
          · have z1 : (c : Int) < 97 := by omega
            rcases hx2 with x2 | x2
            · have z2 : (c : Int) < 48 := by omega
              go_wp2
              go_ret
              exact ⟨retb hr3.out.symm, Below.refl _ _⟩
            · have z2 : ¬ (c : Int) < 48 := by omega
              have z3 : (57 : Int) < c := by omega
              go_wp2
              go_ret
              exact ⟨retb hr3.out.symm, Below.refl _ _⟩
          · have z1 : ¬ (c : Int) < 97 := by omega
            have z1' : (122 : Int) < c := by omega
            have z2 : ¬ (c : Int) < 48 := by omega
            have z3 : (57 : Int) < c := by omega
            go_wp2
            go_ret
            exact ⟨retb hr3.out.symm, Below.refl _ _⟩
      · have hlt' : ¬ (k : Int) < s.size := by omega
        have hr3 : Hid (R = !resv.contains s.data.toList) := HY.out (by
          have h := hrr.out
          rw [List.drop_eq_nil_of_le (by simpa using hlt)] at h
          exact h)
        obtain ⟨Q, eQ⟩ : ∃ Q : Bool, Hid (resv.contains s.data.toList = Q) := ⟨_, rfl⟩
        rw [eQ.out] at hr3
        go_wp2_with fail
        refine (cW.out _).mono ?_
        rintro e w1 ⟨rfl, hB1, hS1⟩
        have cH : Hid (Calls Tryz.prog 52 #[.slice (some ⟨w.heap.size, 0, none⟩) 23 23, .string s] w1 fun e w' => e = .returned (.bool Q) ∧ w' = w1) := by
          have h := rhas_any _ resv s w1 hS1 (by decide)
          rw [eQ.out] at h
          exact h
        clear hS1 cW
        go_wp2_with fail
        refine cH.out.mono ?_
        rintro e w2 ⟨rfl, rfl⟩
        clear cH
        go_wp2
        go_ret
        exact ⟨retb hr3.out.symm, hB1⟩
  · have hb' : lowN (hd s.data.toList) = false := by simpa using hb
    have hn : Hid (R = false) := by rw [← eR.out]; unfold Hid nameB nameL; rw [hb']; simp
    have hb1 : s[0].toNat < 97 ∨ 122 < s[0].toNat := by
      rw [hh] at hb'
      unfold lowN at hb'
      simp at hb'
      omega
    clear hb hb' hh eR hl
    rcases hb1 with x1 | x1
    · have b1 : ((s[0].toNat : Nat) : Int) < 97 := by omega
      go_enter Tryz.func27, Tryz.ntmps27
      go_wp2
      go_ret
      exact ⟨retb hn.out.symm, Below.refl _ _⟩
    · have b1 : ¬ ((s[0].toNat : Nat) : Int) < 97 := by omega
      have b2 : (122 : Int) < ((s[0].toNat : Nat) : Int) := by omega
      go_enter Tryz.func27, Tryz.ntmps27
      go_wp2
      go_ret
      exact ⟨retb hn.out.symm, Below.refl _ _⟩

end Go.Proofs.YtgmmhgbodddadaaGreatDoor

namespace Go.Proofs.YtgmmhgbodddadaaGreatDoor
open Go.RowKit LX Go.Shelf
set_option linter.unusedVariables false

end Go.Proofs.YtgmmhgbodddadaaGreatDoor
