/- The document's Add and Sub of any two fractions. -/
import Derived.Test.YtedoahibceeklaaGreatDoorRefSumA
import Derived.Test.YtedoahibceeklaaGreatDoorRefSumB
import Derived.Test.YtedoahibceeklaaGreatDoorRefSumC
import Derived.Test.YtedoahibceeklaaGreatDoorPub
import Derived.Deep.DeepCutAuto
namespace Go.Proofs.YtedoahibceeklaaGreatDoor
open Go.RowKit

theorem docbdS {x y : Int} (hx : 0 ≤ x) (hx' : x ≤ 9223372036854775808) (hy : 0 ≤ y) (hy' : y ≤ 9223372036854775808) : 0 ≤ x * y ∧ x * y ≤ 85070591730234615865843651857942052864 := by
  have h := mul_bd hx hx' hy hy'
  exact ⟨h.1, by omega⟩
/-- A product by signs and sizes; where it is 0 the sign does not matter. -/
theorem docsgS (a c : Int) : sg (decide (a < 0) != decide (c < 0)) (sz a * sz c) = a * c := by
  unfold sg
  by_cases h1 : a < 0 <;> by_cases h2 : c < 0
  · rw [sz_of_neg h1, sz_of_neg h2]; simp [h1, h2] <;> grind
  · rw [sz_of_neg h1, sz_of_nonneg (show 0 ≤ c by omega)]; simp [h1, h2] <;> grind
  · rw [sz_of_nonneg (show 0 ≤ a by omega), sz_of_neg h2]; simp [h1, h2] <;> grind
  · rw [sz_of_nonneg (show 0 ≤ a by omega), sz_of_nonneg (show 0 ≤ c by omega)]; simp [h1, h2] <;> grind
theorem doczeroS (b : Bool) : sg b 0 = 0 := by unfold sg; split <;> rfl

theorem rsum_yes (minus : Bool) (a b c d : Int) (w : World) (ha : -9223372036854775808 ≤ a) (ha' : a ≤ 9223372036854775807) (hb : -9223372036854775808 ≤ b) (hb' : b ≤ 9223372036854775807) (hc : -9223372036854775808 ≤ c) (hc' : c ≤ 9223372036854775807) (hd : -9223372036854775808 ≤ d) (hd' : d ≤ 9223372036854775807) (m1 : mayB a b = true) (m2 : mayB c d = true) :
    Calls Tryz.prog 53 #[.agg #[.int .i64 a, .int .i64 b], .agg #[.int .i64 c, .int .i64 d], .bool minus] w fun e w' => e = .returned (.tuple #[.agg #[.int .i64 (rN (a * d + sg minus (c * b)) (b * d)), .int .i64 (rD (a * d + sg minus (c * b)) (b * d))], .int .i64 (rE (a * d + sg minus (c * b)) (b * d))]) ∧ Below w.heap.size w w' := by
  have pb := (may_of m1).1
  have pd := (may_of m2).1
  have za := sz_nonneg a
  have zc := sz_nonneg c
  have za' := sz_le ha ha'
  have zc' := sz_le hc hc'
  have kX := docbdS za za' (show 0 ≤ d by omega) (by omega)
  have kY := docbdS zc zc' (show 0 ≤ b by omega) (by omega)
  have kD := docbdS (show 0 ≤ b by omega) (by omega) (show 0 ≤ d by omega) (by omega)
  have kD0 : 0 < b * d := Int.mul_pos pb pd
  have eX : a * d = sg (decide (a < 0)) (sz a * d) := by
    unfold sg; by_cases h : a < 0
    · rw [sz_of_neg h]; simp [h] <;> grind
    · rw [sz_of_nonneg (show 0 ≤ a by omega)]; simp [h] <;> grind
  have eY : sg minus (c * b) = sg (!(decide (c < 0) == minus)) (sz c * b) := by
    unfold sg; by_cases h : c < 0 <;> cases minus
    · rw [sz_of_neg h]; simp [h] <;> grind
    · rw [sz_of_neg h]; simp [h] <;> grind
    · rw [sz_of_nonneg (show 0 ≤ c by omega)]; simp [h] <;> grind
    · rw [sz_of_nonneg (show 0 ≤ c by omega)]; simp [h] <;> grind
  rw [eX, eY]
  have RAWA := fun (p q s : Bool) (n : Int) (h1 : decide (a < 0) = p) (h2 : (!(decide (c < 0) == minus)) = q) (h3 : 0 ≤ n) (h4 : n ≤ 170141183460469231731687303715884105728) (h5 : s = true → 0 < n) => rsum_rawA p q s minus a b c d n w ha ha' hb hb' hc hc' hd hd' pb pd za za' zc zc' kX.1 kX.2 kY.1 kY.2 h1 h2 (fun W => rmade_r s n (b * d) W h3 h4 kD0 (by omega) h5)
  have RAWB := fun (p q s : Bool) (n : Int) (h1 : decide (a < 0) = p) (h2 : (!(decide (c < 0) == minus)) = q) (h3 : 0 ≤ n) (h4 : n ≤ 170141183460469231731687303715884105728) (h5 : s = true → 0 < n) => rsum_rawB p q s minus a b c d n w ha ha' hb hb' hc hc' hd hd' pb pd za za' zc zc' kX.1 kX.2 kY.1 kY.2 h1 h2 (fun W => rmade_r s n (b * d) W h3 h4 kD0 (by omega) h5)
  have RAWC := fun (p q s : Bool) (n : Int) (h1 : decide (a < 0) = p) (h2 : (!(decide (c < 0) == minus)) = q) (h3 : 0 ≤ n) (h4 : n ≤ 170141183460469231731687303715884105728) (h5 : s = true → 0 < n) => rsum_rawC p q s minus a b c d n w ha ha' hb hb' hc hc' hd hd' pb pd za za' zc zc' kX.1 kX.2 kY.1 kY.2 h1 h2 (fun W => rmade_r s n (b * d) W h3 h4 kD0 (by omega) h5)
  generalize hp : decide (a < 0) = p at *
  generalize hq : (!(decide (c < 0) == minus)) = q at *
  generalize sz a * d = X at *
  generalize sz c * b = Y at *
  cases p <;> cases q
  · have e : sg false X + sg false Y = sg false (X + Y) := rfl
    rw [e]
    exact RAWA false false false (X + Y) rfl rfl (by omega) (by omega) (by simp) (Or.inr (Or.inr ⟨rfl, rfl, rfl, rfl⟩))
  · by_cases h : Y ≤ X
    · have e : sg false X + sg true Y = sg false (X - Y) := by unfold sg; simp; omega
      rw [e]
      exact RAWC false true false (X - Y) rfl rfl (by omega) (by omega) (by simp) (Or.inl ⟨rfl, rfl, rfl, rfl, h⟩)
    · have e : sg false X + sg true Y = sg true (Y - X) := by unfold sg; simp; omega
      rw [e]
      exact RAWC false true true (Y - X) rfl rfl (by omega) (by omega) (by omega) (Or.inr ⟨rfl, rfl, rfl, rfl, by omega⟩)
  · by_cases h : Y ≤ X
    · by_cases hz : X - Y = 0
      · have dz : g0 (X - Y) = 0 ∧ g1 (X - Y) = 0 ∧ g2 (X - Y) = 0 ∧ g3 (X - Y) = 0 := by rw [hz]; exact g_zero
        have e : sg true X + sg false Y = sg false (X - Y) := by unfold sg; simp; omega
        rw [e]
        exact RAWB true false false (X - Y) rfl rfl (by omega) (by omega) (by simp) (Or.inr (Or.inl ⟨rfl, rfl, rfl, rfl, h, dz⟩))
      · have e : sg true X + sg false Y = sg true (X - Y) := by unfold sg; simp; omega
        rw [e]
        exact RAWB true false true (X - Y) rfl rfl (by omega) (by omega) (by omega) (Or.inl ⟨rfl, rfl, rfl, rfl, h, g_pos _ (by omega) (by omega) hz⟩)
    · have e : sg true X + sg false Y = sg false (Y - X) := by unfold sg; simp; omega
      rw [e]
      exact RAWB true false false (Y - X) rfl rfl (by omega) (by omega) (by simp) (Or.inr (Or.inr ⟨rfl, rfl, rfl, rfl, by omega⟩))
  · by_cases hz : X + Y = 0
    · have dz : g0 (X + Y) = 0 ∧ g1 (X + Y) = 0 ∧ g2 (X + Y) = 0 ∧ g3 (X + Y) = 0 := by rw [hz]; exact g_zero
      have e : sg true X + sg true Y = sg false (X + Y) := by unfold sg; simp; omega
      rw [e]
      exact RAWA true true false (X + Y) rfl rfl (by omega) (by omega) (by simp) (Or.inr (Or.inl ⟨rfl, rfl, rfl, rfl, dz⟩))
    · have e : sg true X + sg true Y = sg true (X + Y) := by unfold sg; simp; omega
      rw [e]
      exact RAWA true true true (X + Y) rfl rfl (by omega) (by omega) (by omega) (Or.inl ⟨rfl, rfl, rfl, rfl, g_pos _ (by omega) (by omega) hz⟩)

set_option maxRecDepth 100000 in
set_option maxHeartbeats 1000000 in
theorem radd_no1 (a b c d : Int) (w : World) (ha : -9223372036854775808 ≤ a) (ha' : a ≤ 9223372036854775807) (hb : -9223372036854775808 ≤ b) (hb' : b ≤ 9223372036854775807) (hc : -9223372036854775808 ≤ c) (hc' : c ≤ 9223372036854775807) (hd : -9223372036854775808 ≤ d) (hd' : d ≤ 9223372036854775807) (m1 : mayB a b = false) :
    Calls Tryz.prog 37 #[.agg #[.int .i64 a, .int .i64 b], .agg #[.int .i64 c, .int .i64 d]] w fun e w' => e = .returned (.tuple #[.agg #[.int .i64 0, .int .i64 0], .int .i64 1]) ∧ Below w.heap.size w w' := by
  go_enter Tryz.func37, Tryz.ntmps37
  go_upto_region 1 with fail
  refine wp_world ?_
  intro W0 hW0
  have A : Blk2 W0 (w.heap.size) (a) (b) := by rw [hW0]; constructor <;> simp (maxDischargeDepth := 12) [go_sem]
  have l_A : w.heap.size < W0.heap.size := by rw [hW0]; first | (simp; done) | (simp; omega)
  have B : Blk2 W0 (w.heap.size + 1) (c) (d) := by rw [hW0]; constructor <;> simp (maxDischargeDepth := 12) [go_sem]
  have l_B : w.heap.size + 1 < W0.heap.size := by rw [hW0]; first | (simp; done) | (simp; omega)
  have R : Blk2 W0 (w.heap.size + 1 + 1) (0) (0) := by rw [hW0]; constructor <;> simp (maxDischargeDepth := 12) [go_sem]
  have l_R : w.heap.size + 1 + 1 < W0.heap.size := by rw [hW0]; first | (simp; done) | (simp; omega)
  have hB0 : Below w.heap.size w W0 := by rw [hW0]; exact (by repeat' (first | (with_reducible exact Below.refl _ _) | (with_reducible assumption) | (with_reducible refine bdrewN _ ?_) | (with_reducible refine Below.alloc ?_ ?_ _) | (with_reducible refine Below.setCell ?_ ?_ _) | (with_reducible refine Below.drew ?_) | go_size | (simp; omega)))
  clear hW0
  have HA : Hid (Blk2 W0 (w.heap.size) (a) (b)) := A
  have HB : Hid (Blk2 W0 (w.heap.size + 1) (c) (d)) := B
  have HR : Hid (Blk2 W0 (w.heap.size + 1 + 1) (0) (0)) := R
  clear A B R
  obtain ⟨A_0, A_1, -, -⟩ := HA.out
  go_wp2_with fail
  refine (rmay_any a b _ ha ha' hb hb').mono ?_
  rintro e w1 ⟨rfl, hb1⟩
  rw [m1]
  have hs1 := hb1.size
  have b1 := HB.out.below hb1 l_B
  obtain ⟨x0, x1, -, -⟩ := b1
  go_wp2_with fail
  refine (rmay_any c d _ hc hc' hd hd').mono ?_
  rintro e w2 ⟨rfl, hb2⟩
  have hB2 : Below w.heap.size w w2 := (hB0.trans (hb1.mono hB0.size)).trans (hb2.mono (by have := hB0.size; omega))
  have bR := (HR.out.below hb1 l_R).below hb2 (by omega)
  have bB := (HB.out.below hb1 l_B).below hb2 (by omega)
  have bRR : Hid (Blk2 w2 (w.heap.size + 1 + 1) 0 0) := bR
  obtain ⟨r0, r1, r2, r3⟩ := bR
  obtain ⟨y0, y1, -, -⟩ := bB
  clear x0 x1 A_0 A_1 hb1 hb2 hs1
  go_wp2
  generalize hW9 : World.setCell _ _ _ = W9
  have b9 := bRR.out.two 0 0
  rw [hW9] at b9
  have hB9 : Below w.heap.size w W9 := by rw [← hW9]; exact (by repeat' (first | (with_reducible exact Below.refl _ _) | (with_reducible assumption) | (with_reducible refine bdrewN _ ?_) | (with_reducible refine Below.alloc ?_ ?_ _) | (with_reducible refine Below.setCell ?_ ?_ _) | (with_reducible refine Below.drew ?_) | go_size | (simp; omega)))
  clear hW9
  obtain ⟨z0, z1, -, -⟩ := b9
  refine bodyPost_ret (by simp [results, Tryz.results37, go_sem, z0, z1]; try rfl) rfl ?_
  exact ⟨rfl, hB9⟩

set_option maxRecDepth 100000 in
set_option maxHeartbeats 1000000 in
theorem radd_no2 (a b c d : Int) (w : World) (ha : -9223372036854775808 ≤ a) (ha' : a ≤ 9223372036854775807) (hb : -9223372036854775808 ≤ b) (hb' : b ≤ 9223372036854775807) (hc : -9223372036854775808 ≤ c) (hc' : c ≤ 9223372036854775807) (hd : -9223372036854775808 ≤ d) (hd' : d ≤ 9223372036854775807) (m1 : mayB a b = true) (m2 : mayB c d = false) :
    Calls Tryz.prog 37 #[.agg #[.int .i64 a, .int .i64 b], .agg #[.int .i64 c, .int .i64 d]] w fun e w' => e = .returned (.tuple #[.agg #[.int .i64 0, .int .i64 0], .int .i64 1]) ∧ Below w.heap.size w w' := by
  go_enter Tryz.func37, Tryz.ntmps37
  go_upto_region 1 with fail
  refine wp_world ?_
  intro W0 hW0
  have A : Blk2 W0 (w.heap.size) (a) (b) := by rw [hW0]; constructor <;> simp (maxDischargeDepth := 12) [go_sem]
  have l_A : w.heap.size < W0.heap.size := by rw [hW0]; first | (simp; done) | (simp; omega)
  have B : Blk2 W0 (w.heap.size + 1) (c) (d) := by rw [hW0]; constructor <;> simp (maxDischargeDepth := 12) [go_sem]
  have l_B : w.heap.size + 1 < W0.heap.size := by rw [hW0]; first | (simp; done) | (simp; omega)
  have R : Blk2 W0 (w.heap.size + 1 + 1) (0) (0) := by rw [hW0]; constructor <;> simp (maxDischargeDepth := 12) [go_sem]
  have l_R : w.heap.size + 1 + 1 < W0.heap.size := by rw [hW0]; first | (simp; done) | (simp; omega)
  have hB0 : Below w.heap.size w W0 := by rw [hW0]; exact (by repeat' (first | (with_reducible exact Below.refl _ _) | (with_reducible assumption) | (with_reducible refine bdrewN _ ?_) | (with_reducible refine Below.alloc ?_ ?_ _) | (with_reducible refine Below.setCell ?_ ?_ _) | (with_reducible refine Below.drew ?_) | go_size | (simp; omega)))
  clear hW0
  have HA : Hid (Blk2 W0 (w.heap.size) (a) (b)) := A
  have HB : Hid (Blk2 W0 (w.heap.size + 1) (c) (d)) := B
  have HR : Hid (Blk2 W0 (w.heap.size + 1 + 1) (0) (0)) := R
  clear A B R
  obtain ⟨A_0, A_1, -, -⟩ := HA.out
  go_wp2_with fail
  refine (rmay_any a b _ ha ha' hb hb').mono ?_
  rintro e w1 ⟨rfl, hb1⟩
  rw [m1]
  have hs1 := hb1.size
  have b1 := HB.out.below hb1 l_B
  obtain ⟨x0, x1, -, -⟩ := b1
  go_wp2_with fail
  refine (rmay_any c d _ hc hc' hd hd').mono ?_
  rintro e w2 ⟨rfl, hb2⟩
  rw [m2]
  have hB2 : Below w.heap.size w w2 := (hB0.trans (hb1.mono hB0.size)).trans (hb2.mono (by have := hB0.size; omega))
  have bR := (HR.out.below hb1 l_R).below hb2 (by omega)
  have bB := (HB.out.below hb1 l_B).below hb2 (by omega)
  have bRR : Hid (Blk2 w2 (w.heap.size + 1 + 1) 0 0) := bR
  obtain ⟨r0, r1, r2, r3⟩ := bR
  obtain ⟨y0, y1, -, -⟩ := bB
  clear x0 x1 A_0 A_1 hb1 hb2 hs1
  go_wp2
  generalize hW9 : World.setCell _ _ _ = W9
  have b9 := bRR.out.two 0 0
  rw [hW9] at b9
  have hB9 : Below w.heap.size w W9 := by rw [← hW9]; exact (by repeat' (first | (with_reducible exact Below.refl _ _) | (with_reducible assumption) | (with_reducible refine bdrewN _ ?_) | (with_reducible refine Below.alloc ?_ ?_ _) | (with_reducible refine Below.setCell ?_ ?_ _) | (with_reducible refine Below.drew ?_) | go_size | (simp; omega)))
  clear hW9
  obtain ⟨z0, z1, -, -⟩ := b9
  refine bodyPost_ret (by simp [results, Tryz.results37, go_sem, z0, z1]; try rfl) rfl ?_
  exact ⟨rfl, hB9⟩

set_option maxRecDepth 100000 in
set_option maxHeartbeats 1000000 in
theorem radd_yes (a b c d : Int) (w : World) (ha : -9223372036854775808 ≤ a) (ha' : a ≤ 9223372036854775807) (hb : -9223372036854775808 ≤ b) (hb' : b ≤ 9223372036854775807) (hc : -9223372036854775808 ≤ c) (hc' : c ≤ 9223372036854775807) (hd : -9223372036854775808 ≤ d) (hd' : d ≤ 9223372036854775807) (m1 : mayB a b = true) (m2 : mayB c d = true) :
    Calls Tryz.prog 37 #[.agg #[.int .i64 a, .int .i64 b], .agg #[.int .i64 c, .int .i64 d]] w fun e w' => e = .returned (.tuple #[.agg #[.int .i64 (rN (a * d + sg false (c * b)) (b * d)), .int .i64 (rD (a * d + sg false (c * b)) (b * d))], .int .i64 (rE (a * d + sg false (c * b)) (b * d))]) ∧ Below w.heap.size w w' := by
  go_enter Tryz.func37, Tryz.ntmps37
  go_upto_region 1 with fail
  refine wp_world ?_
  intro W0 hW0
  have A : Blk2 W0 (w.heap.size) (a) (b) := by rw [hW0]; constructor <;> simp (maxDischargeDepth := 12) [go_sem]
  have l_A : w.heap.size < W0.heap.size := by rw [hW0]; first | (simp; done) | (simp; omega)
  have B : Blk2 W0 (w.heap.size + 1) (c) (d) := by rw [hW0]; constructor <;> simp (maxDischargeDepth := 12) [go_sem]
  have l_B : w.heap.size + 1 < W0.heap.size := by rw [hW0]; first | (simp; done) | (simp; omega)
  have R : Blk2 W0 (w.heap.size + 1 + 1) (0) (0) := by rw [hW0]; constructor <;> simp (maxDischargeDepth := 12) [go_sem]
  have l_R : w.heap.size + 1 + 1 < W0.heap.size := by rw [hW0]; first | (simp; done) | (simp; omega)
  have hB0 : Below w.heap.size w W0 := by rw [hW0]; exact (by repeat' (first | (with_reducible exact Below.refl _ _) | (with_reducible assumption) | (with_reducible refine bdrewN _ ?_) | (with_reducible refine Below.alloc ?_ ?_ _) | (with_reducible refine Below.setCell ?_ ?_ _) | (with_reducible refine Below.drew ?_) | go_size | (simp; omega)))
  clear hW0
  have HA : Hid (Blk2 W0 (w.heap.size) (a) (b)) := A
  have HB : Hid (Blk2 W0 (w.heap.size + 1) (c) (d)) := B
  have HR : Hid (Blk2 W0 (w.heap.size + 1 + 1) (0) (0)) := R
  clear A B R
  obtain ⟨A_0, A_1, -, -⟩ := HA.out
  go_wp2_with fail
  refine (rmay_any a b _ ha ha' hb hb').mono ?_
  rintro e w1 ⟨rfl, hb1⟩
  clear A_0 A_1
  rw [m1]
  go_upto_region 2 with fail
  refine wp_world ?_
  intro W1 hW1
  have st1 : Below W0.heap.size W0 W1 := by rw [hW1]; exact (by repeat' (first | (with_reducible exact Below.refl _ _) | (with_reducible assumption) | (with_reducible refine bdrewN _ ?_) | (with_reducible refine Below.alloc ?_ ?_ _) | (with_reducible refine Below.setCell ?_ ?_ _) | (with_reducible refine Below.drew ?_) | go_size | (simp; omega)))
  clear hW1 hb1
  have A : Blk2 W1 (w.heap.size) (a) (b) := HA.out.below st1 l_A
  have l_A : w.heap.size < W1.heap.size := Nat.lt_of_lt_of_le l_A st1.size
  have B : Blk2 W1 (w.heap.size + 1) (c) (d) := HB.out.below st1 l_B
  have l_B : w.heap.size + 1 < W1.heap.size := Nat.lt_of_lt_of_le l_B st1.size
  have R : Blk2 W1 (w.heap.size + 1 + 1) (0) (0) := HR.out.below st1 l_R
  have l_R : w.heap.size + 1 + 1 < W1.heap.size := Nat.lt_of_lt_of_le l_R st1.size
  have hBW1 : Below w.heap.size w W1 := hB0.trans (st1.mono hB0.size)
  clear hB0 st1 HA HB HR
  have HA : Hid (Blk2 W1 (w.heap.size) (a) (b)) := A
  have HB : Hid (Blk2 W1 (w.heap.size + 1) (c) (d)) := B
  have HR : Hid (Blk2 W1 (w.heap.size + 1 + 1) (0) (0)) := R
  clear A B R
  obtain ⟨B_0, B_1, -, -⟩ := HB.out
  go_wp2_with fail
  refine (rmay_any c d _ hc hc' hd hd').mono ?_
  rintro e w2 ⟨rfl, hb2⟩
  clear B_0 B_1
  rw [m2]
  go_upto_region 5 with fail
  refine wp_world ?_
  intro W2 hW2
  have st2 : Below W1.heap.size W1 W2 := by rw [hW2]; exact (by repeat' (first | (with_reducible exact Below.refl _ _) | (with_reducible assumption) | (with_reducible refine bdrewN _ ?_) | (with_reducible refine Below.alloc ?_ ?_ _) | (with_reducible refine Below.setCell ?_ ?_ _) | (with_reducible refine Below.drew ?_) | go_size | (simp; omega)))
  clear hW2 hb2
  have A : Blk2 W2 (w.heap.size) (a) (b) := HA.out.below st2 l_A
  have l_A : w.heap.size < W2.heap.size := Nat.lt_of_lt_of_le l_A st2.size
  have B : Blk2 W2 (w.heap.size + 1) (c) (d) := HB.out.below st2 l_B
  have l_B : w.heap.size + 1 < W2.heap.size := Nat.lt_of_lt_of_le l_B st2.size
  have R : Blk2 W2 (w.heap.size + 1 + 1) (0) (0) := HR.out.below st2 l_R
  have l_R : w.heap.size + 1 + 1 < W2.heap.size := Nat.lt_of_lt_of_le l_R st2.size
  have hBW2 : Below w.heap.size w W2 := hBW1.trans (st2.mono hBW1.size)
  clear hBW1 st2 HA HB HR
  have HA : Hid (Blk2 W2 (w.heap.size) (a) (b)) := A
  have HB : Hid (Blk2 W2 (w.heap.size + 1) (c) (d)) := B
  have HR : Hid (Blk2 W2 (w.heap.size + 1 + 1) (0) (0)) := R
  clear A B R
  obtain ⟨A_0, A_1, -, -⟩ := HA.out
  obtain ⟨B_0, B_1, -, -⟩ := HB.out
  obtain ⟨R_0, R_1, -, -⟩ := HR.out
  go_wp2_with fail
  refine (rsum_yes false a b c d _ ha ha' hb hb' hc hc' hd hd' m1 m2).mono ?_
  rintro e w9 ⟨rfl, hb9⟩
  have bR := HR.out.below hb9 l_R
  have hB9 := hBW2.trans (hb9.mono hBW2.size)
  have bRR : Hid (Blk2 w9 (w.heap.size + 1 + 1) 0 0) := bR
  obtain ⟨r0, r1, r2, r3⟩ := bR
  clear A_0 A_1 B_0 B_1 R_0 R_1
  go_wp2
  generalize hW9 : World.setCell _ _ _ = W9
  have b9 := bRR.out.two (rN (a * d + sg false (c * b)) (b * d)) (rD (a * d + sg false (c * b)) (b * d))
  rw [hW9] at b9
  have hB10 : Below w.heap.size w W9 := by rw [← hW9]; exact (by repeat' (first | (with_reducible exact Below.refl _ _) | (with_reducible assumption) | (with_reducible refine bdrewN _ ?_) | (with_reducible refine Below.alloc ?_ ?_ _) | (with_reducible refine Below.setCell ?_ ?_ _) | (with_reducible refine Below.drew ?_) | go_size | (simp; omega)))
  clear hW9
  obtain ⟨z0, z1, -, -⟩ := b9
  refine bodyPost_ret (by simp [results, Tryz.results37, go_sem, z0, z1]; try rfl) rfl ?_
  exact ⟨rfl, hB10⟩

theorem radd_all (a b c d : Int) (w : World) (ha : -9223372036854775808 ≤ a) (ha' : a ≤ 9223372036854775807) (hb : -9223372036854775808 ≤ b) (hb' : b ≤ 9223372036854775807) (hc : -9223372036854775808 ≤ c) (hc' : c ≤ 9223372036854775807) (hd : -9223372036854775808 ≤ d) (hd' : d ≤ 9223372036854775807) :
    Calls Tryz.prog 37 #[.agg #[.int .i64 a, .int .i64 b], .agg #[.int .i64 c, .int .i64 d]] w fun e w' => e = .returned (.tuple #[.agg #[.int .i64 (tN a b c d (a * d + c * b) (b * d)), .int .i64 (tD a b c d (a * d + c * b) (b * d))], .int .i64 (tE a b c d (a * d + c * b) (b * d))]) ∧ Below w.heap.size w w' := by
  cases m1 : mayB a b
  · obtain ⟨e1, e2, e3⟩ := t_no1 (c := c) (d := d) m1 (a * d + c * b) (b * d)
    rw [e1, e2, e3]; exact radd_no1 a b c d w ha ha' hb hb' hc hc' hd hd' m1
  · cases m2 : mayB c d
    · obtain ⟨e1, e2, e3⟩ := t_no2 (a := a) (b := b) m2 (a * d + c * b) (b * d)
      rw [e1, e2, e3]; exact radd_no2 a b c d w ha ha' hb hb' hc hc' hd hd' m1 m2
    · obtain ⟨e1, e2, e3⟩ := t_yes m1 m2 (a * d + c * b) (b * d)
      rw [e1, e2, e3]
      have h := radd_yes a b c d w ha ha' hb hb' hc hc' hd hd' m1 m2
      have e : a * d + sg false (c * b) = a * d + c * b := rfl
      rw [e] at h
      exact h
set_option maxRecDepth 100000 in
set_option maxHeartbeats 1000000 in
theorem rsub_no1 (a b c d : Int) (w : World) (ha : -9223372036854775808 ≤ a) (ha' : a ≤ 9223372036854775807) (hb : -9223372036854775808 ≤ b) (hb' : b ≤ 9223372036854775807) (hc : -9223372036854775808 ≤ c) (hc' : c ≤ 9223372036854775807) (hd : -9223372036854775808 ≤ d) (hd' : d ≤ 9223372036854775807) (m1 : mayB a b = false) :
    Calls Tryz.prog 38 #[.agg #[.int .i64 a, .int .i64 b], .agg #[.int .i64 c, .int .i64 d]] w fun e w' => e = .returned (.tuple #[.agg #[.int .i64 0, .int .i64 0], .int .i64 1]) ∧ Below w.heap.size w w' := by
  go_enter Tryz.func38, Tryz.ntmps38
  go_upto_region 1 with fail
  refine wp_world ?_
  intro W0 hW0
  have A : Blk2 W0 (w.heap.size) (a) (b) := by rw [hW0]; constructor <;> simp (maxDischargeDepth := 12) [go_sem]
  have l_A : w.heap.size < W0.heap.size := by rw [hW0]; first | (simp; done) | (simp; omega)
  have B : Blk2 W0 (w.heap.size + 1) (c) (d) := by rw [hW0]; constructor <;> simp (maxDischargeDepth := 12) [go_sem]
  have l_B : w.heap.size + 1 < W0.heap.size := by rw [hW0]; first | (simp; done) | (simp; omega)
  have R : Blk2 W0 (w.heap.size + 1 + 1) (0) (0) := by rw [hW0]; constructor <;> simp (maxDischargeDepth := 12) [go_sem]
  have l_R : w.heap.size + 1 + 1 < W0.heap.size := by rw [hW0]; first | (simp; done) | (simp; omega)
  have hB0 : Below w.heap.size w W0 := by rw [hW0]; exact (by repeat' (first | (with_reducible exact Below.refl _ _) | (with_reducible assumption) | (with_reducible refine bdrewN _ ?_) | (with_reducible refine Below.alloc ?_ ?_ _) | (with_reducible refine Below.setCell ?_ ?_ _) | (with_reducible refine Below.drew ?_) | go_size | (simp; omega)))
  clear hW0
  have HA : Hid (Blk2 W0 (w.heap.size) (a) (b)) := A
  have HB : Hid (Blk2 W0 (w.heap.size + 1) (c) (d)) := B
  have HR : Hid (Blk2 W0 (w.heap.size + 1 + 1) (0) (0)) := R
  clear A B R
  obtain ⟨A_0, A_1, -, -⟩ := HA.out
  go_wp2_with fail
  refine (rmay_any a b _ ha ha' hb hb').mono ?_
  rintro e w1 ⟨rfl, hb1⟩
  rw [m1]
  have hs1 := hb1.size
  have b1 := HB.out.below hb1 l_B
  obtain ⟨x0, x1, -, -⟩ := b1
  go_wp2_with fail
  refine (rmay_any c d _ hc hc' hd hd').mono ?_
  rintro e w2 ⟨rfl, hb2⟩
  have hB2 : Below w.heap.size w w2 := (hB0.trans (hb1.mono hB0.size)).trans (hb2.mono (by have := hB0.size; omega))
  have bR := (HR.out.below hb1 l_R).below hb2 (by omega)
  have bB := (HB.out.below hb1 l_B).below hb2 (by omega)
  have bRR : Hid (Blk2 w2 (w.heap.size + 1 + 1) 0 0) := bR
  obtain ⟨r0, r1, r2, r3⟩ := bR
  obtain ⟨y0, y1, -, -⟩ := bB
  clear x0 x1 A_0 A_1 hb1 hb2 hs1
  go_wp2
  generalize hW9 : World.setCell _ _ _ = W9
  have b9 := bRR.out.two 0 0
  rw [hW9] at b9
  have hB9 : Below w.heap.size w W9 := by rw [← hW9]; exact (by repeat' (first | (with_reducible exact Below.refl _ _) | (with_reducible assumption) | (with_reducible refine bdrewN _ ?_) | (with_reducible refine Below.alloc ?_ ?_ _) | (with_reducible refine Below.setCell ?_ ?_ _) | (with_reducible refine Below.drew ?_) | go_size | (simp; omega)))
  clear hW9
  obtain ⟨z0, z1, -, -⟩ := b9
  refine bodyPost_ret (by simp [results, Tryz.results38, go_sem, z0, z1]; try rfl) rfl ?_
  exact ⟨rfl, hB9⟩

set_option maxRecDepth 100000 in
set_option maxHeartbeats 1000000 in
theorem rsub_no2 (a b c d : Int) (w : World) (ha : -9223372036854775808 ≤ a) (ha' : a ≤ 9223372036854775807) (hb : -9223372036854775808 ≤ b) (hb' : b ≤ 9223372036854775807) (hc : -9223372036854775808 ≤ c) (hc' : c ≤ 9223372036854775807) (hd : -9223372036854775808 ≤ d) (hd' : d ≤ 9223372036854775807) (m1 : mayB a b = true) (m2 : mayB c d = false) :
    Calls Tryz.prog 38 #[.agg #[.int .i64 a, .int .i64 b], .agg #[.int .i64 c, .int .i64 d]] w fun e w' => e = .returned (.tuple #[.agg #[.int .i64 0, .int .i64 0], .int .i64 1]) ∧ Below w.heap.size w w' := by
  go_enter Tryz.func38, Tryz.ntmps38
  go_upto_region 1 with fail
  refine wp_world ?_
  intro W0 hW0
  have A : Blk2 W0 (w.heap.size) (a) (b) := by rw [hW0]; constructor <;> simp (maxDischargeDepth := 12) [go_sem]
  have l_A : w.heap.size < W0.heap.size := by rw [hW0]; first | (simp; done) | (simp; omega)
  have B : Blk2 W0 (w.heap.size + 1) (c) (d) := by rw [hW0]; constructor <;> simp (maxDischargeDepth := 12) [go_sem]
  have l_B : w.heap.size + 1 < W0.heap.size := by rw [hW0]; first | (simp; done) | (simp; omega)
  have R : Blk2 W0 (w.heap.size + 1 + 1) (0) (0) := by rw [hW0]; constructor <;> simp (maxDischargeDepth := 12) [go_sem]
  have l_R : w.heap.size + 1 + 1 < W0.heap.size := by rw [hW0]; first | (simp; done) | (simp; omega)
  have hB0 : Below w.heap.size w W0 := by rw [hW0]; exact (by repeat' (first | (with_reducible exact Below.refl _ _) | (with_reducible assumption) | (with_reducible refine bdrewN _ ?_) | (with_reducible refine Below.alloc ?_ ?_ _) | (with_reducible refine Below.setCell ?_ ?_ _) | (with_reducible refine Below.drew ?_) | go_size | (simp; omega)))
  clear hW0
  have HA : Hid (Blk2 W0 (w.heap.size) (a) (b)) := A
  have HB : Hid (Blk2 W0 (w.heap.size + 1) (c) (d)) := B
  have HR : Hid (Blk2 W0 (w.heap.size + 1 + 1) (0) (0)) := R
  clear A B R
  obtain ⟨A_0, A_1, -, -⟩ := HA.out
  go_wp2_with fail
  refine (rmay_any a b _ ha ha' hb hb').mono ?_
  rintro e w1 ⟨rfl, hb1⟩
  rw [m1]
  have hs1 := hb1.size
  have b1 := HB.out.below hb1 l_B
  obtain ⟨x0, x1, -, -⟩ := b1
  go_wp2_with fail
  refine (rmay_any c d _ hc hc' hd hd').mono ?_
  rintro e w2 ⟨rfl, hb2⟩
  rw [m2]
  have hB2 : Below w.heap.size w w2 := (hB0.trans (hb1.mono hB0.size)).trans (hb2.mono (by have := hB0.size; omega))
  have bR := (HR.out.below hb1 l_R).below hb2 (by omega)
  have bB := (HB.out.below hb1 l_B).below hb2 (by omega)
  have bRR : Hid (Blk2 w2 (w.heap.size + 1 + 1) 0 0) := bR
  obtain ⟨r0, r1, r2, r3⟩ := bR
  obtain ⟨y0, y1, -, -⟩ := bB
  clear x0 x1 A_0 A_1 hb1 hb2 hs1
  go_wp2
  generalize hW9 : World.setCell _ _ _ = W9
  have b9 := bRR.out.two 0 0
  rw [hW9] at b9
  have hB9 : Below w.heap.size w W9 := by rw [← hW9]; exact (by repeat' (first | (with_reducible exact Below.refl _ _) | (with_reducible assumption) | (with_reducible refine bdrewN _ ?_) | (with_reducible refine Below.alloc ?_ ?_ _) | (with_reducible refine Below.setCell ?_ ?_ _) | (with_reducible refine Below.drew ?_) | go_size | (simp; omega)))
  clear hW9
  obtain ⟨z0, z1, -, -⟩ := b9
  refine bodyPost_ret (by simp [results, Tryz.results38, go_sem, z0, z1]; try rfl) rfl ?_
  exact ⟨rfl, hB9⟩

set_option maxRecDepth 100000 in
set_option maxHeartbeats 1000000 in
theorem rsub_yes (a b c d : Int) (w : World) (ha : -9223372036854775808 ≤ a) (ha' : a ≤ 9223372036854775807) (hb : -9223372036854775808 ≤ b) (hb' : b ≤ 9223372036854775807) (hc : -9223372036854775808 ≤ c) (hc' : c ≤ 9223372036854775807) (hd : -9223372036854775808 ≤ d) (hd' : d ≤ 9223372036854775807) (m1 : mayB a b = true) (m2 : mayB c d = true) :
    Calls Tryz.prog 38 #[.agg #[.int .i64 a, .int .i64 b], .agg #[.int .i64 c, .int .i64 d]] w fun e w' => e = .returned (.tuple #[.agg #[.int .i64 (rN (a * d + sg true (c * b)) (b * d)), .int .i64 (rD (a * d + sg true (c * b)) (b * d))], .int .i64 (rE (a * d + sg true (c * b)) (b * d))]) ∧ Below w.heap.size w w' := by
  go_enter Tryz.func38, Tryz.ntmps38
  go_upto_region 1 with fail
  refine wp_world ?_
  intro W0 hW0
  have A : Blk2 W0 (w.heap.size) (a) (b) := by rw [hW0]; constructor <;> simp (maxDischargeDepth := 12) [go_sem]
  have l_A : w.heap.size < W0.heap.size := by rw [hW0]; first | (simp; done) | (simp; omega)
  have B : Blk2 W0 (w.heap.size + 1) (c) (d) := by rw [hW0]; constructor <;> simp (maxDischargeDepth := 12) [go_sem]
  have l_B : w.heap.size + 1 < W0.heap.size := by rw [hW0]; first | (simp; done) | (simp; omega)
  have R : Blk2 W0 (w.heap.size + 1 + 1) (0) (0) := by rw [hW0]; constructor <;> simp (maxDischargeDepth := 12) [go_sem]
  have l_R : w.heap.size + 1 + 1 < W0.heap.size := by rw [hW0]; first | (simp; done) | (simp; omega)
  have hB0 : Below w.heap.size w W0 := by rw [hW0]; exact (by repeat' (first | (with_reducible exact Below.refl _ _) | (with_reducible assumption) | (with_reducible refine bdrewN _ ?_) | (with_reducible refine Below.alloc ?_ ?_ _) | (with_reducible refine Below.setCell ?_ ?_ _) | (with_reducible refine Below.drew ?_) | go_size | (simp; omega)))
  clear hW0
  have HA : Hid (Blk2 W0 (w.heap.size) (a) (b)) := A
  have HB : Hid (Blk2 W0 (w.heap.size + 1) (c) (d)) := B
  have HR : Hid (Blk2 W0 (w.heap.size + 1 + 1) (0) (0)) := R
  clear A B R
  obtain ⟨A_0, A_1, -, -⟩ := HA.out
  go_wp2_with fail
  refine (rmay_any a b _ ha ha' hb hb').mono ?_
  rintro e w1 ⟨rfl, hb1⟩
  clear A_0 A_1
  rw [m1]
  go_upto_region 2 with fail
  refine wp_world ?_
  intro W1 hW1
  have st1 : Below W0.heap.size W0 W1 := by rw [hW1]; exact (by repeat' (first | (with_reducible exact Below.refl _ _) | (with_reducible assumption) | (with_reducible refine bdrewN _ ?_) | (with_reducible refine Below.alloc ?_ ?_ _) | (with_reducible refine Below.setCell ?_ ?_ _) | (with_reducible refine Below.drew ?_) | go_size | (simp; omega)))
  clear hW1 hb1
  have A : Blk2 W1 (w.heap.size) (a) (b) := HA.out.below st1 l_A
  have l_A : w.heap.size < W1.heap.size := Nat.lt_of_lt_of_le l_A st1.size
  have B : Blk2 W1 (w.heap.size + 1) (c) (d) := HB.out.below st1 l_B
  have l_B : w.heap.size + 1 < W1.heap.size := Nat.lt_of_lt_of_le l_B st1.size
  have R : Blk2 W1 (w.heap.size + 1 + 1) (0) (0) := HR.out.below st1 l_R
  have l_R : w.heap.size + 1 + 1 < W1.heap.size := Nat.lt_of_lt_of_le l_R st1.size
  have hBW1 : Below w.heap.size w W1 := hB0.trans (st1.mono hB0.size)
  clear hB0 st1 HA HB HR
  have HA : Hid (Blk2 W1 (w.heap.size) (a) (b)) := A
  have HB : Hid (Blk2 W1 (w.heap.size + 1) (c) (d)) := B
  have HR : Hid (Blk2 W1 (w.heap.size + 1 + 1) (0) (0)) := R
  clear A B R
  obtain ⟨B_0, B_1, -, -⟩ := HB.out
  go_wp2_with fail
  refine (rmay_any c d _ hc hc' hd hd').mono ?_
  rintro e w2 ⟨rfl, hb2⟩
  clear B_0 B_1
  rw [m2]
  go_upto_region 5 with fail
  refine wp_world ?_
  intro W2 hW2
  have st2 : Below W1.heap.size W1 W2 := by rw [hW2]; exact (by repeat' (first | (with_reducible exact Below.refl _ _) | (with_reducible assumption) | (with_reducible refine bdrewN _ ?_) | (with_reducible refine Below.alloc ?_ ?_ _) | (with_reducible refine Below.setCell ?_ ?_ _) | (with_reducible refine Below.drew ?_) | go_size | (simp; omega)))
  clear hW2 hb2
  have A : Blk2 W2 (w.heap.size) (a) (b) := HA.out.below st2 l_A
  have l_A : w.heap.size < W2.heap.size := Nat.lt_of_lt_of_le l_A st2.size
  have B : Blk2 W2 (w.heap.size + 1) (c) (d) := HB.out.below st2 l_B
  have l_B : w.heap.size + 1 < W2.heap.size := Nat.lt_of_lt_of_le l_B st2.size
  have R : Blk2 W2 (w.heap.size + 1 + 1) (0) (0) := HR.out.below st2 l_R
  have l_R : w.heap.size + 1 + 1 < W2.heap.size := Nat.lt_of_lt_of_le l_R st2.size
  have hBW2 : Below w.heap.size w W2 := hBW1.trans (st2.mono hBW1.size)
  clear hBW1 st2 HA HB HR
  have HA : Hid (Blk2 W2 (w.heap.size) (a) (b)) := A
  have HB : Hid (Blk2 W2 (w.heap.size + 1) (c) (d)) := B
  have HR : Hid (Blk2 W2 (w.heap.size + 1 + 1) (0) (0)) := R
  clear A B R
  obtain ⟨A_0, A_1, -, -⟩ := HA.out
  obtain ⟨B_0, B_1, -, -⟩ := HB.out
  obtain ⟨R_0, R_1, -, -⟩ := HR.out
  go_wp2_with fail
  refine (rsum_yes true a b c d _ ha ha' hb hb' hc hc' hd hd' m1 m2).mono ?_
  rintro e w9 ⟨rfl, hb9⟩
  have bR := HR.out.below hb9 l_R
  have hB9 := hBW2.trans (hb9.mono hBW2.size)
  have bRR : Hid (Blk2 w9 (w.heap.size + 1 + 1) 0 0) := bR
  obtain ⟨r0, r1, r2, r3⟩ := bR
  clear A_0 A_1 B_0 B_1 R_0 R_1
  go_wp2
  generalize hW9 : World.setCell _ _ _ = W9
  have b9 := bRR.out.two (rN (a * d + sg true (c * b)) (b * d)) (rD (a * d + sg true (c * b)) (b * d))
  rw [hW9] at b9
  have hB10 : Below w.heap.size w W9 := by rw [← hW9]; exact (by repeat' (first | (with_reducible exact Below.refl _ _) | (with_reducible assumption) | (with_reducible refine bdrewN _ ?_) | (with_reducible refine Below.alloc ?_ ?_ _) | (with_reducible refine Below.setCell ?_ ?_ _) | (with_reducible refine Below.drew ?_) | go_size | (simp; omega)))
  clear hW9
  obtain ⟨z0, z1, -, -⟩ := b9
  refine bodyPost_ret (by simp [results, Tryz.results38, go_sem, z0, z1]; try rfl) rfl ?_
  exact ⟨rfl, hB10⟩

theorem rsub_all (a b c d : Int) (w : World) (ha : -9223372036854775808 ≤ a) (ha' : a ≤ 9223372036854775807) (hb : -9223372036854775808 ≤ b) (hb' : b ≤ 9223372036854775807) (hc : -9223372036854775808 ≤ c) (hc' : c ≤ 9223372036854775807) (hd : -9223372036854775808 ≤ d) (hd' : d ≤ 9223372036854775807) :
    Calls Tryz.prog 38 #[.agg #[.int .i64 a, .int .i64 b], .agg #[.int .i64 c, .int .i64 d]] w fun e w' => e = .returned (.tuple #[.agg #[.int .i64 (tN a b c d (a * d - c * b) (b * d)), .int .i64 (tD a b c d (a * d - c * b) (b * d))], .int .i64 (tE a b c d (a * d - c * b) (b * d))]) ∧ Below w.heap.size w w' := by
  cases m1 : mayB a b
  · obtain ⟨e1, e2, e3⟩ := t_no1 (c := c) (d := d) m1 (a * d - c * b) (b * d)
    rw [e1, e2, e3]; exact rsub_no1 a b c d w ha ha' hb hb' hc hc' hd hd' m1
  · cases m2 : mayB c d
    · obtain ⟨e1, e2, e3⟩ := t_no2 (a := a) (b := b) m2 (a * d - c * b) (b * d)
      rw [e1, e2, e3]; exact rsub_no2 a b c d w ha ha' hb hb' hc hc' hd hd' m1 m2
    · obtain ⟨e1, e2, e3⟩ := t_yes m1 m2 (a * d - c * b) (b * d)
      rw [e1, e2, e3]
      have h := rsub_yes a b c d w ha ha' hb hb' hc hc' hd hd' m1 m2
      have e : a * d + sg true (c * b) = a * d - c * b := Int.sub_eq_add_neg.symm
      rw [e] at h
      exact h

end Go.Proofs.YtedoahibceeklaaGreatDoor
