/- The document's Mul of any two fractions. -/
import Derived.Test.YtedoahibceeklaaGreatDoorRefMul
import Derived.Test.YtedoahibceeklaaGreatDoorPub
import Derived.Deep.DeepCutAuto
namespace Go.Proofs.YtedoahibceeklaaGreatDoor
open Go.RowKit

theorem docbd {x y : Int} (hx : 0 ≤ x) (hx' : x ≤ 9223372036854775808) (hy : 0 ≤ y) (hy' : y ≤ 9223372036854775808) : 0 ≤ x * y ∧ x * y ≤ 85070591730234615865843651857942052864 := by
  have h := mul_bd hx hx' hy hy'
  exact ⟨h.1, by omega⟩
/-- A product by signs and sizes; where it is 0 the sign does not matter. -/
theorem docsg (a c : Int) : sg (decide (a < 0) != decide (c < 0)) (sz a * sz c) = a * c := by
  unfold sg
  by_cases h1 : a < 0 <;> by_cases h2 : c < 0
  · rw [sz_of_neg h1, sz_of_neg h2]; simp [h1, h2] <;> grind
  · rw [sz_of_neg h1, sz_of_nonneg (show 0 ≤ c by omega)]; simp [h1, h2] <;> grind
  · rw [sz_of_nonneg (show 0 ≤ a by omega), sz_of_neg h2]; simp [h1, h2] <;> grind
  · rw [sz_of_nonneg (show 0 ≤ a by omega), sz_of_nonneg (show 0 ≤ c by omega)]; simp [h1, h2] <;> grind
theorem doczero (b : Bool) : sg b 0 = 0 := by unfold sg; split <;> rfl

set_option maxRecDepth 100000 in
set_option maxHeartbeats 1000000 in
theorem rmul_no1 (a b c d : Int) (w : World) (ha : -9223372036854775808 ≤ a) (ha' : a ≤ 9223372036854775807) (hb : -9223372036854775808 ≤ b) (hb' : b ≤ 9223372036854775807) (hc : -9223372036854775808 ≤ c) (hc' : c ≤ 9223372036854775807) (hd : -9223372036854775808 ≤ d) (hd' : d ≤ 9223372036854775807) (m1 : mayB a b = false) :
    Calls Tryz.prog 39 #[.agg #[.int .i64 a, .int .i64 b], .agg #[.int .i64 c, .int .i64 d]] w fun e w' => e = .returned (.tuple #[.agg #[.int .i64 0, .int .i64 0], .int .i64 1]) ∧ Below w.heap.size w w' := by
  go_enter Tryz.func39, Tryz.ntmps39
  go_upto_region 1 with fail
  refine wp_world ?_
  intro W0 hW0
  have A : Blk2 W0 (w.heap.size) (a) (b) := by rw [hW0]; constructor <;> simp (maxDischargeDepth := 12) [go_sem]
  have l_A : w.heap.size < W0.heap.size := by rw [hW0]; first | (simp; done) | (simp; omega)
  have B : Blk2 W0 (w.heap.size + 1) (c) (d) := by rw [hW0]; constructor <;> simp (maxDischargeDepth := 12) [go_sem]
  have l_B : w.heap.size + 1 < W0.heap.size := by rw [hW0]; first | (simp; done) | (simp; omega)
  have R : Blk2 W0 (w.heap.size + 1 + 1) (0) (0) := by rw [hW0]; constructor <;> simp (maxDischargeDepth := 12) [go_sem]
  have l_R : w.heap.size + 1 + 1 < W0.heap.size := by rw [hW0]; first | (simp; done) | (simp; omega)
  have hB0 : Below w.heap.size w W0 := by rw [hW0]; exact (by repeat' (first | (with_reducible exact Below.refl _ _) | (with_reducible assumption) | (with_reducible refine bdrewN _ ?_) | (with_reducible refine Below.alloc ?_ ?_ _) | (with_reducible refine Below.setCell ?_ ?_ _) | (with_reducible refine Below.drew ?_) | go_size | (simp; omega)))
  clear hW0
  have HA : Hid (Blk2 W0 (w.heap.size) (a) (b)) := A
  have HB : Hid (Blk2 W0 (w.heap.size + 1) (c) (d)) := B
  have HR : Hid (Blk2 W0 (w.heap.size + 1 + 1) (0) (0)) := R
  clear A B R
  obtain ⟨A_0, A_1, -, -⟩ := HA.out
  go_wp2_with fail
  refine (rmay_any a b _ ha ha' hb hb').mono ?_
  rintro e w1 ⟨rfl, hb1⟩
  rw [m1]
  have hs1 := hb1.size
  have b1 := HB.out.below hb1 l_B
  obtain ⟨x0, x1, -, -⟩ := b1
  go_wp2_with fail
  refine (rmay_any c d _ hc hc' hd hd').mono ?_
  rintro e w2 ⟨rfl, hb2⟩
  have hB2 : Below w.heap.size w w2 := (hB0.trans (hb1.mono hB0.size)).trans (hb2.mono (by have := hB0.size; omega))
  have bR := (HR.out.below hb1 l_R).below hb2 (by omega)
  have bB := (HB.out.below hb1 l_B).below hb2 (by omega)
  have bRR : Hid (Blk2 w2 (w.heap.size + 1 + 1) 0 0) := bR
  obtain ⟨r0, r1, r2, r3⟩ := bR
  obtain ⟨y0, y1, -, -⟩ := bB
  clear x0 x1 A_0 A_1 hb1 hb2 hs1
  go_wp2
  generalize hW9 : World.setCell _ _ _ = W9
  have b9 := bRR.out.two 0 0
  rw [hW9] at b9
  have hB9 : Below w.heap.size w W9 := by rw [← hW9]; exact (by repeat' (first | (with_reducible exact Below.refl _ _) | (with_reducible assumption) | (with_reducible refine bdrewN _ ?_) | (with_reducible refine Below.alloc ?_ ?_ _) | (with_reducible refine Below.setCell ?_ ?_ _) | (with_reducible refine Below.drew ?_) | go_size | (simp; omega)))
  clear hW9
  obtain ⟨z0, z1, -, -⟩ := b9
  refine bodyPost_ret (by simp [results, Tryz.results39, go_sem, z0, z1]; try rfl) rfl ?_
  exact ⟨rfl, hB9⟩

set_option maxRecDepth 100000 in
set_option maxHeartbeats 1000000 in
theorem rmul_no2 (a b c d : Int) (w : World) (ha : -9223372036854775808 ≤ a) (ha' : a ≤ 9223372036854775807) (hb : -9223372036854775808 ≤ b) (hb' : b ≤ 9223372036854775807) (hc : -9223372036854775808 ≤ c) (hc' : c ≤ 9223372036854775807) (hd : -9223372036854775808 ≤ d) (hd' : d ≤ 9223372036854775807) (m1 : mayB a b = true) (m2 : mayB c d = false) :
    Calls Tryz.prog 39 #[.agg #[.int .i64 a, .int .i64 b], .agg #[.int .i64 c, .int .i64 d]] w fun e w' => e = .returned (.tuple #[.agg #[.int .i64 0, .int .i64 0], .int .i64 1]) ∧ Below w.heap.size w w' := by
  go_enter Tryz.func39, Tryz.ntmps39
  go_upto_region 1 with fail
  refine wp_world ?_
  intro W0 hW0
  have A : Blk2 W0 (w.heap.size) (a) (b) := by rw [hW0]; constructor <;> simp (maxDischargeDepth := 12) [go_sem]
  have l_A : w.heap.size < W0.heap.size := by rw [hW0]; first | (simp; done) | (simp; omega)
  have B : Blk2 W0 (w.heap.size + 1) (c) (d) := by rw [hW0]; constructor <;> simp (maxDischargeDepth := 12) [go_sem]
  have l_B : w.heap.size + 1 < W0.heap.size := by rw [hW0]; first | (simp; done) | (simp; omega)
  have R : Blk2 W0 (w.heap.size + 1 + 1) (0) (0) := by rw [hW0]; constructor <;> simp (maxDischargeDepth := 12) [go_sem]
  have l_R : w.heap.size + 1 + 1 < W0.heap.size := by rw [hW0]; first | (simp; done) | (simp; omega)
  have hB0 : Below w.heap.size w W0 := by rw [hW0]; exact (by repeat' (first | (with_reducible exact Below.refl _ _) | (with_reducible assumption) | (with_reducible refine bdrewN _ ?_) | (with_reducible refine Below.alloc ?_ ?_ _) | (with_reducible refine Below.setCell ?_ ?_ _) | (with_reducible refine Below.drew ?_) | go_size | (simp; omega)))
  clear hW0
  have HA : Hid (Blk2 W0 (w.heap.size) (a) (b)) := A
  have HB : Hid (Blk2 W0 (w.heap.size + 1) (c) (d)) := B
  have HR : Hid (Blk2 W0 (w.heap.size + 1 + 1) (0) (0)) := R
  clear A B R
  obtain ⟨A_0, A_1, -, -⟩ := HA.out
  go_wp2_with fail
  refine (rmay_any a b _ ha ha' hb hb').mono ?_
  rintro e w1 ⟨rfl, hb1⟩
  rw [m1]
  have hs1 := hb1.size
  have b1 := HB.out.below hb1 l_B
  obtain ⟨x0, x1, -, -⟩ := b1
  go_wp2_with fail
  refine (rmay_any c d _ hc hc' hd hd').mono ?_
  rintro e w2 ⟨rfl, hb2⟩
  rw [m2]
  have hB2 : Below w.heap.size w w2 := (hB0.trans (hb1.mono hB0.size)).trans (hb2.mono (by have := hB0.size; omega))
  have bR := (HR.out.below hb1 l_R).below hb2 (by omega)
  have bB := (HB.out.below hb1 l_B).below hb2 (by omega)
  have bRR : Hid (Blk2 w2 (w.heap.size + 1 + 1) 0 0) := bR
  obtain ⟨r0, r1, r2, r3⟩ := bR
  obtain ⟨y0, y1, -, -⟩ := bB
  clear x0 x1 A_0 A_1 hb1 hb2 hs1
  go_wp2
  generalize hW9 : World.setCell _ _ _ = W9
  have b9 := bRR.out.two 0 0
  rw [hW9] at b9
  have hB9 : Below w.heap.size w W9 := by rw [← hW9]; exact (by repeat' (first | (with_reducible exact Below.refl _ _) | (with_reducible assumption) | (with_reducible refine bdrewN _ ?_) | (with_reducible refine Below.alloc ?_ ?_ _) | (with_reducible refine Below.setCell ?_ ?_ _) | (with_reducible refine Below.drew ?_) | go_size | (simp; omega)))
  clear hW9
  obtain ⟨z0, z1, -, -⟩ := b9
  refine bodyPost_ret (by simp [results, Tryz.results39, go_sem, z0, z1]; try rfl) rfl ?_
  exact ⟨rfl, hB9⟩

theorem rmul_all (a b c d : Int) (w : World) (ha : -9223372036854775808 ≤ a) (ha' : a ≤ 9223372036854775807) (hb : -9223372036854775808 ≤ b) (hb' : b ≤ 9223372036854775807) (hc : -9223372036854775808 ≤ c) (hc' : c ≤ 9223372036854775807) (hd : -9223372036854775808 ≤ d) (hd' : d ≤ 9223372036854775807) :
    Calls Tryz.prog 39 #[.agg #[.int .i64 a, .int .i64 b], .agg #[.int .i64 c, .int .i64 d]] w fun e w' => e = .returned (.tuple #[.agg #[.int .i64 (tN a b c d (a * c) (b * d)), .int .i64 (tD a b c d (a * c) (b * d))], .int .i64 (tE a b c d (a * c) (b * d))]) ∧ Below w.heap.size w w' := by
  cases m1 : mayB a b
  · obtain ⟨e1, e2, e3⟩ := t_no1 (c := c) (d := d) m1 (a * c) (b * d)
    rw [e1, e2, e3]; exact rmul_no1 a b c d w ha ha' hb hb' hc hc' hd hd' m1
  · cases m2 : mayB c d
    · obtain ⟨e1, e2, e3⟩ := t_no2 (a := a) (b := b) m2 (a * c) (b * d)
      rw [e1, e2, e3]; exact rmul_no2 a b c d w ha ha' hb hb' hc hc' hd hd' m1 m2
    · obtain ⟨e1, e2, e3⟩ := t_yes m1 m2 (a * c) (b * d)
      rw [e1, e2, e3]
      have pb := (may_of m1).1
      have pd := (may_of m2).1
      have za := sz_nonneg a
      have zc := sz_nonneg c
      have za' := sz_le ha ha'
      have zc' := sz_le hc hc'
      have kn := docbd za za' zc zc'
      have kd := docbd (show 0 ≤ b by omega) (by omega) (show 0 ≤ d by omega) (by omega)
      have kd0 : 0 < b * d := Int.mul_pos pb pd
      have SG := docsg a c
      by_cases hz : sz a * sz c = 0
      · have dz : g0 (sz a * sz c) = 0 ∧ g1 (sz a * sz c) = 0 ∧ g2 (sz a * sz c) = 0 ∧ g3 (sz a * sz c) = 0 := by rw [hz]; exact g_zero
        have hq : sg false (sz a * sz c) = a * c := by rw [← SG, hz, doczero, doczero]
        rw [← hq]
        refine rmul_raw false a b c d w ha ha' hb hb' hc hc' hd hd' m1 m2 pb pd za za' zc zc' (fun W => rmade_r false (sz a * sz c) (b * d) W kn.1 (by omega) kd0 (by omega) (by simp)) ?_
        by_cases s1 : a < 0 <;> by_cases s2 : c < 0
        · exact Or.inl ⟨s1, s2, rfl⟩
        · exact Or.inr (Or.inr (Or.inr (Or.inl ⟨s1, by omega, rfl, dz⟩)))
        · exact Or.inr (Or.inr (Or.inr (Or.inr (Or.inr ⟨by omega, s2, rfl, dz⟩))))
        · exact Or.inr (Or.inl ⟨by omega, by omega, rfl⟩)
      · have dn := g_pos (sz a * sz c) kn.1 (by omega) hz
        rw [← SG]
        refine rmul_raw _ a b c d w ha ha' hb hb' hc hc' hd hd' m1 m2 pb pd za za' zc zc' (fun W => rmade_r _ (sz a * sz c) (b * d) W kn.1 (by omega) kd0 (by omega) (fun _ => by omega)) ?_
        by_cases s1 : a < 0 <;> by_cases s2 : c < 0
        · exact Or.inl ⟨s1, s2, by simp [s1, s2]⟩
        · exact Or.inr (Or.inr (Or.inl ⟨s1, by omega, by simp [s1, s2], dn⟩))
        · exact Or.inr (Or.inr (Or.inr (Or.inr (Or.inl ⟨by omega, s2, by simp [s1, s2], dn⟩))))
        · exact Or.inr (Or.inl ⟨by omega, by omega, by simp [s1, s2]⟩)

end Go.Proofs.YtedoahibceeklaaGreatDoor
