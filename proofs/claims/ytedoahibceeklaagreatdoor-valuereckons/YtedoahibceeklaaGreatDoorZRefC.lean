/- The document's Add and Sub of any two fractions. -/
import Derived.Test.YtedoahibceeklaaGreatDoorRef1
import Derived.Test.YtedoahibceeklaaGreatDoorKept
import Derived.Test.YtedoahibceeklaaGreatDoorPub
import Derived.Deep.DeepCutAuto
import Derived.Test.YtedoahibceeklaaGreatDoorZRefAB

namespace Go.Proofs.YtedoahibceeklaaGreatDoor
open Go.RowKit

set_option maxRecDepth 100000 in
set_option maxHeartbeats 8000000 in
theorem rsum_rawC (p q s minus : Bool) (a b c d n : Int) (w : World) (ha : -9223372036854775808 ≤ a) (ha' : a ≤ 9223372036854775807) (hb : -9223372036854775808 ≤ b) (hb' : b ≤ 9223372036854775807) (hc : -9223372036854775808 ≤ c) (hc' : c ≤ 9223372036854775807) (hd : -9223372036854775808 ≤ d) (hd' : d ≤ 9223372036854775807) (pb : 0 < b) (pd : 0 < d) (za : 0 ≤ sz a) (za' : sz a ≤ 9223372036854775808) (zc : 0 ≤ sz c) (zc' : sz c ≤ 9223372036854775808)
    (hX : 0 ≤ sz a * d) (hX' : sz a * d ≤ 85070591730234615865843651857942052864) (hY : 0 ≤ sz c * b) (hY' : sz c * b ≤ 85070591730234615865843651857942052864)
    (eqp : Hid (decide (a < 0) = p)) (eqq : Hid ((!(decide (c < 0) == minus)) = q))
    (HM : Hid (∀ W : World, Calls Tryz.prog 54 #[.bool s, .agg #[.int .u64 (g0 (n)), .int .u64 (g1 (n)), .int .u64 (g2 (n)), .int .u64 (g3 (n))], .agg #[.int .u64 (g0 (b * d)), .int .u64 (g1 (b * d)), .int .u64 (g2 (b * d)), .int .u64 (g3 (b * d))]] W fun e w' => e = .returned (.tuple #[.agg #[.int .i64 (rN (sg s (n)) (b * d)), .int .i64 (rD (sg s (n)) (b * d))], .int .i64 (rE (sg s (n)) (b * d))]) ∧ Below W.heap.size W w'))
    (hcase : (p = false ∧ q = true ∧ n = (sz a * d - sz c * b) ∧ s = false ∧ sz c * b ≤ sz a * d) ∨ (p = false ∧ q = true ∧ n = (sz c * b - sz a * d) ∧ s = true ∧ sz a * d < sz c * b)) :
    Calls Tryz.prog 53 #[.agg #[.int .i64 a, .int .i64 b], .agg #[.int .i64 c, .int .i64 d], .bool minus] w fun e w' => e = .returned (.tuple #[.agg #[.int .i64 (rN (sg s (n)) (b * d)), .int .i64 (rD (sg s (n)) (b * d))], .int .i64 (rE (sg s (n)) (b * d))]) ∧ Below w.heap.size w w' := by
  have ub : IntKind.u64.wrap b = b := by rw [IntKind.wrap_u64]; omega
  have ud : IntKind.u64.wrap d = d := by rw [IntKind.wrap_u64]; omega
  go_enter Tryz.func53, Tryz.ntmps53
  go_upto_region 1 with fail
  refine wp_world ?_
  intro W0 hW0
  have A : Blk2 W0 (w.heap.size) (a) (b) := by rw [hW0]; constructor <;> simp (maxDischargeDepth := 12) [go_sem]
  have l_A : w.heap.size < W0.heap.size := by rw [hW0]; first | (simp; done) | (simp; omega)
  have B : Blk2 W0 (w.heap.size + 1) (c) (d) := by rw [hW0]; constructor <;> simp (maxDischargeDepth := 12) [go_sem]
  have l_B : w.heap.size + 1 < W0.heap.size := by rw [hW0]; first | (simp; done) | (simp; omega)
  have R : Blk2 W0 (w.heap.size + 1 + 1) (0) (0) := by rw [hW0]; constructor <;> simp (maxDischargeDepth := 12) [go_sem]
  have l_R : w.heap.size + 1 + 1 < W0.heap.size := by rw [hW0]; first | (simp; done) | (simp; omega)
  have hB0 : Below w.heap.size w W0 := by rw [hW0]; exact (by repeat' (first | (with_reducible exact Below.refl _ _) | (with_reducible assumption) | (with_reducible refine bdrewN _ ?_) | (with_reducible refine Below.alloc ?_ ?_ _) | (with_reducible refine Below.setCell ?_ ?_ _) | (with_reducible refine Below.drew ?_) | go_size | (simp; omega)))
  clear hW0
  have HA : Hid (Blk2 W0 (w.heap.size) (a) (b)) := A
  have HB : Hid (Blk2 W0 (w.heap.size + 1) (c) (d)) := B
  have HR : Hid (Blk2 W0 (w.heap.size + 1 + 1) (0) (0)) := R
  clear A B R
  obtain ⟨A_0, A_1, -, -⟩ := HA.out
  obtain ⟨B_0, B_1, -, -⟩ := HB.out
  go_cut [8] (fun p wx => ∃ bn : Nat, p = .pointer (some ⟨bn, 0, none⟩) ∧ W0.heap.size ≤ bn ∧ bn < wx.heap.size ∧ Blk wx bn (g0 (sz a * d)) (g1 (sz a * d)) (g2 (sz a * d)) (g3 (sz a * d)) ∧ Below W0.heap.size W0 wx)
  case first =>
    go_region_held3 (fun w' => w'.cell? ⟨w.heap.size, 0, none⟩ = some (.int .i64 (a)) ∧ w'.cell? ⟨w.heap.size, 1, none⟩ = some (.int .i64 (b)) ∧ w'.cell? ⟨w.heap.size + 1, 0, none⟩ = some (.int .i64 (c)) ∧ w'.cell? ⟨w.heap.size + 1, 1, none⟩ = some (.int .i64 (d))) (exact ⟨bcl (n := W0.heap.size) (by go_grown) A_0 (by simp; try omega), bcl (n := W0.heap.size) (by go_grown) A_1 (by simp; try omega), bcl (n := W0.heap.size) (by go_grown) B_0 (by simp; try omega), bcl (n := W0.heap.size) (by go_grown) B_1 (by simp; try omega)⟩)
      (first
        | (go_at_call 47; refine (rsize_any _ _ (by omega) (by omega)).mono ?_; rintro e w' ⟨rfl, rfl⟩)
        | (go_at_call 46; refine (rtimes_any _ _ _ (by omega) (by omega) (by omega) (by omega)).mono ?_; rintro e w1 ⟨rfl, hb1⟩; obtain ⟨hc1, hf1, hz1, hB1, hn1, hm1⟩ := bg (n := W0.heap.size) (W0 := W0) (by go_grown) (by go_size) hb1; have z_A := hm1 (w.heap.size) l_A; have z_B := hm1 (w.heap.size + 1) l_B; clear hm1))
    all_goals
      go_wp2
      go_meet
      case rel =>
        refine ⟨_, rfl, ?_, ?_, ?_, ?_⟩
        · first | go_size | (simp; omega)
        · first | omega | (simp; done) | (simp; omega) | simp (maxDischargeDepth := 8) [go_sem, *]
        · constructor <;> simp (maxDischargeDepth := 8) [go_sem, *]
        · exact (by repeat' (first | (with_reducible exact Below.refl _ _) | (with_reducible assumption) | (with_reducible refine bdrewN _ ?_) | (with_reducible refine Below.alloc ?_ ?_ _) | (with_reducible refine Below.setCell ?_ ?_ _) | (with_reducible refine Below.drew ?_) | go_size | (simp; omega)))
  case rest =>
    obtain ⟨bX, rfl, n_X, l_X, X, st1⟩ := hcut
    clear A_0 A_1 B_0 B_1
    obtain ⟨V1, eV1⟩ : ∃ V1 : World, V1 = wc := ⟨_, rfl⟩
    rw [← eV1] at l_X X st1 ⊢
    clear eV1 wc
    have A : Blk2 V1 (w.heap.size) (a) (b) := HA.out.below st1 l_A
    have l_A : w.heap.size < V1.heap.size := Nat.lt_of_lt_of_le l_A st1.size
    have B : Blk2 V1 (w.heap.size + 1) (c) (d) := HB.out.below st1 l_B
    have l_B : w.heap.size + 1 < V1.heap.size := Nat.lt_of_lt_of_le l_B st1.size
    have R : Blk2 V1 (w.heap.size + 1 + 1) (0) (0) := HR.out.below st1 l_R
    have l_R : w.heap.size + 1 + 1 < V1.heap.size := Nat.lt_of_lt_of_le l_R st1.size
    have hBV1 : Below w.heap.size w V1 := hB0.trans (st1.mono hB0.size)
    clear hB0 st1 HA HB HR
    go_upto_region 2 with fail
    have HA : Hid (Blk2 V1 (w.heap.size) (a) (b)) := A
    have HB : Hid (Blk2 V1 (w.heap.size + 1) (c) (d)) := B
    have HR : Hid (Blk2 V1 (w.heap.size + 1 + 1) (0) (0)) := R
    have HX : Hid (Blk V1 (bX) (g0 (sz a * d)) (g1 (sz a * d)) (g2 (sz a * d)) (g3 (sz a * d))) := X
    clear A B R X
    obtain ⟨A_0, A_1, -, -⟩ := HA.out
    obtain ⟨B_0, B_1, -, -⟩ := HB.out
    go_cut [9] (fun p wx => ∃ bn : Nat, p = .pointer (some ⟨bn, 0, none⟩) ∧ V1.heap.size ≤ bn ∧ bn < wx.heap.size ∧ Blk wx bn (g0 (sz c * b)) (g1 (sz c * b)) (g2 (sz c * b)) (g3 (sz c * b)) ∧ Below V1.heap.size V1 wx)
    case first =>
      go_region_held3 (fun w' => w'.cell? ⟨w.heap.size, 0, none⟩ = some (.int .i64 (a)) ∧ w'.cell? ⟨w.heap.size, 1, none⟩ = some (.int .i64 (b)) ∧ w'.cell? ⟨w.heap.size + 1, 0, none⟩ = some (.int .i64 (c)) ∧ w'.cell? ⟨w.heap.size + 1, 1, none⟩ = some (.int .i64 (d))) (exact ⟨bcl (n := V1.heap.size) (by go_grown) A_0 (by simp; try omega), bcl (n := V1.heap.size) (by go_grown) A_1 (by simp; try omega), bcl (n := V1.heap.size) (by go_grown) B_0 (by simp; try omega), bcl (n := V1.heap.size) (by go_grown) B_1 (by simp; try omega)⟩)
        (first
          | (go_at_call 47; refine (rsize_any _ _ (by omega) (by omega)).mono ?_; rintro e w' ⟨rfl, rfl⟩)
          | (go_at_call 46; refine (rtimes_any _ _ _ (by omega) (by omega) (by omega) (by omega)).mono ?_; rintro e w1 ⟨rfl, hb1⟩; obtain ⟨hc1, hf1, hz1, hB1, hn1, hm1⟩ := bg (n := V1.heap.size) (W0 := V1) (by go_grown) (by go_size) hb1; have z_A := hm1 (w.heap.size) l_A; have z_B := hm1 (w.heap.size + 1) l_B; clear hm1))
      all_goals
        go_wp2
        go_meet
        case rel =>
          refine ⟨_, rfl, ?_, ?_, ?_, ?_⟩
          · first | go_size | (simp; omega)
          · first | omega | (simp; done) | (simp; omega) | simp (maxDischargeDepth := 8) [go_sem, *]
          · constructor <;> simp (maxDischargeDepth := 8) [go_sem, *]
          · exact (by repeat' (first | (with_reducible exact Below.refl _ _) | (with_reducible assumption) | (with_reducible refine bdrewN _ ?_) | (with_reducible refine Below.alloc ?_ ?_ _) | (with_reducible refine Below.setCell ?_ ?_ _) | (with_reducible refine Below.drew ?_) | go_size | (simp; omega)))
    case rest =>
      obtain ⟨bY, rfl, n_Y, l_Y, Y, st2⟩ := hcut
      clear A_0 A_1 B_0 B_1
      obtain ⟨V2, eV2⟩ : ∃ V2 : World, V2 = wc := ⟨_, rfl⟩
      rw [← eV2] at l_Y Y st2 ⊢
      clear eV2 wc
      have A : Blk2 V2 (w.heap.size) (a) (b) := HA.out.below st2 l_A
      have l_A : w.heap.size < V2.heap.size := Nat.lt_of_lt_of_le l_A st2.size
      have B : Blk2 V2 (w.heap.size + 1) (c) (d) := HB.out.below st2 l_B
      have l_B : w.heap.size + 1 < V2.heap.size := Nat.lt_of_lt_of_le l_B st2.size
      have R : Blk2 V2 (w.heap.size + 1 + 1) (0) (0) := HR.out.below st2 l_R
      have l_R : w.heap.size + 1 + 1 < V2.heap.size := Nat.lt_of_lt_of_le l_R st2.size
      have X : Blk V2 (bX) (g0 (sz a * d)) (g1 (sz a * d)) (g2 (sz a * d)) (g3 (sz a * d)) := HX.out.below st2 l_X
      have l_X : bX < V2.heap.size := Nat.lt_of_lt_of_le l_X st2.size
      have hBV2 : Below w.heap.size w V2 := hBV1.trans (st2.mono hBV1.size)
      clear hBV1 st2 HA HB HR HX
      go_upto_region 3 with fail
      have HA : Hid (Blk2 V2 (w.heap.size) (a) (b)) := A
      have HB : Hid (Blk2 V2 (w.heap.size + 1) (c) (d)) := B
      have HR : Hid (Blk2 V2 (w.heap.size + 1 + 1) (0) (0)) := R
      have HX : Hid (Blk V2 (bX) (g0 (sz a * d)) (g1 (sz a * d)) (g2 (sz a * d)) (g3 (sz a * d))) := X
      have HY : Hid (Blk V2 (bY) (g0 (sz c * b)) (g1 (sz c * b)) (g2 (sz c * b)) (g3 (sz c * b))) := Y
      clear A B R X Y
      obtain ⟨A_0, A_1, -, -⟩ := HA.out
      obtain ⟨B_0, B_1, -, -⟩ := HB.out
      go_wp2_with fail
      refine (rtimes_any b d _ (by omega) (by omega) (by omega) (by omega)).mono ?_
      rintro e w3 ⟨rfl, hb3⟩
      have hz3 := hb3.size
      clear A_0 A_1 B_0 B_1
      go_upto_region 4 with fail
      refine wp_world ?_
      intro W3 hW3
      have st3 : Below V2.heap.size V2 W3 := by rw [hW3]; exact (by repeat' (first | (with_reducible exact Below.refl _ _) | (with_reducible assumption) | (with_reducible refine bdrewN _ ?_) | (with_reducible refine Below.alloc ?_ ?_ _) | (with_reducible refine Below.setCell ?_ ?_ _) | (with_reducible refine Below.drew ?_) | go_size | (simp; omega)))
      have D : Blk W3 (w3.heap.size) (g0 (b * d)) (g1 (b * d)) (g2 (b * d)) (g3 (b * d)) := by rw [hW3]; constructor <;> simp (maxDischargeDepth := 12) [go_sem]
      have l_D : w3.heap.size < W3.heap.size := by rw [hW3]; simp
      clear hW3
      have A : Blk2 W3 (w.heap.size) (a) (b) := HA.out.below st3 l_A
      have l_A : w.heap.size < W3.heap.size := Nat.lt_of_lt_of_le l_A st3.size
      have B : Blk2 W3 (w.heap.size + 1) (c) (d) := HB.out.below st3 l_B
      have l_B : w.heap.size + 1 < W3.heap.size := Nat.lt_of_lt_of_le l_B st3.size
      have R : Blk2 W3 (w.heap.size + 1 + 1) (0) (0) := HR.out.below st3 l_R
      have l_R : w.heap.size + 1 + 1 < W3.heap.size := Nat.lt_of_lt_of_le l_R st3.size
      have X : Blk W3 (bX) (g0 (sz a * d)) (g1 (sz a * d)) (g2 (sz a * d)) (g3 (sz a * d)) := HX.out.below st3 l_X
      have l_X : bX < W3.heap.size := Nat.lt_of_lt_of_le l_X st3.size
      have Y : Blk W3 (bY) (g0 (sz c * b)) (g1 (sz c * b)) (g2 (sz c * b)) (g3 (sz c * b)) := HY.out.below st3 l_Y
      have l_Y : bY < W3.heap.size := Nat.lt_of_lt_of_le l_Y st3.size
      have hBW3 : Below w.heap.size w W3 := hBV2.trans (st3.mono hBV2.size)
      clear hBV2 st3 HA HB HR HX HY
      have HA : Hid (Blk2 W3 (w.heap.size) (a) (b)) := A
      have HB : Hid (Blk2 W3 (w.heap.size + 1) (c) (d)) := B
      have HR : Hid (Blk2 W3 (w.heap.size + 1 + 1) (0) (0)) := R
      have HX : Hid (Blk W3 (bX) (g0 (sz a * d)) (g1 (sz a * d)) (g2 (sz a * d)) (g3 (sz a * d))) := X
      have HY : Hid (Blk W3 (bY) (g0 (sz c * b)) (g1 (sz c * b)) (g2 (sz c * b)) (g3 (sz c * b))) := Y
      have HD : Hid (Blk W3 (w3.heap.size) (g0 (b * d)) (g1 (b * d)) (g2 (b * d)) (g3 (b * d))) := D
      clear A B R X Y D
      obtain ⟨A_0, A_1, -, -⟩ := HA.out
      obtain ⟨B_0, B_1, -, -⟩ := HB.out
      go_upto_region 6 with fail
      rw [eqp.out, eqq.out]
      clear eqp eqq A_0 A_1 B_0 B_1
      have A := HA.out
      have B := HB.out
      have R := HR.out
      have X := HX.out
      have Y := HY.out
      have D := HD.out
      clear HA HB HR HX HY HD
      rcases hcase with ⟨rfl, rfl, rfl, rfl, hxy⟩ | ⟨rfl, rfl, rfl, rfl, hxy⟩
      · obtain ⟨cc, ecc⟩ : ∃ cc : Int, Hid (cmpI (sz a * d) (sz c * b) = cc) := ⟨_, rfl⟩
        have hcc : 0 ≤ cc := by rw [← ecc.out]; unfold cmpI; split <;> (try split) <;> omega
        have HA : Hid (Blk2 W3 (w.heap.size) (a) (b)) := A
        have HB : Hid (Blk2 W3 (w.heap.size + 1) (c) (d)) := B
        have HR : Hid (Blk2 W3 (w.heap.size + 1 + 1) (0) (0)) := R
        have HX : Hid (Blk W3 (bX) (g0 (sz a * d)) (g1 (sz a * d)) (g2 (sz a * d)) (g3 (sz a * d))) := X
        have HY : Hid (Blk W3 (bY) (g0 (sz c * b)) (g1 (sz c * b)) (g2 (sz c * b)) (g3 (sz c * b))) := Y
        have HD : Hid (Blk W3 (w3.heap.size) (g0 (b * d)) (g1 (b * d)) (g2 (b * d)) (g3 (b * d))) := D
        clear A B R X Y D
        obtain ⟨X_0, X_1, X_2, X_3, -, -, -, -⟩ := HX.out
        obtain ⟨Y_0, Y_1, Y_2, Y_3, -, -, -, -⟩ := HY.out
        go_wp2_with fail
        refine (rcompare_any (sz a * d) (sz c * b) _ hX (by omega) hY (by omega)).mono ?_
        rintro e w4 ⟨rfl, hb4⟩
        clear X_0 X_1 X_2 X_3 Y_0 Y_1 Y_2 Y_3
        rw [ecc.out]
        go_upto_region 10 with fail
        refine wp_world ?_
        intro W4 hW4
        have st4 : Below W3.heap.size W3 W4 := by rw [hW4]; exact (by repeat' (first | (with_reducible exact Below.refl _ _) | (with_reducible assumption) | (with_reducible refine bdrewN _ ?_) | (with_reducible refine Below.alloc ?_ ?_ _) | (with_reducible refine Below.setCell ?_ ?_ _) | (with_reducible refine Below.drew ?_) | go_size | (simp; omega)))
        clear hW4 hb4
        have A : Blk2 W4 (w.heap.size) (a) (b) := HA.out.below st4 l_A
        have l_A : w.heap.size < W4.heap.size := Nat.lt_of_lt_of_le l_A st4.size
        have B : Blk2 W4 (w.heap.size + 1) (c) (d) := HB.out.below st4 l_B
        have l_B : w.heap.size + 1 < W4.heap.size := Nat.lt_of_lt_of_le l_B st4.size
        have R : Blk2 W4 (w.heap.size + 1 + 1) (0) (0) := HR.out.below st4 l_R
        have l_R : w.heap.size + 1 + 1 < W4.heap.size := Nat.lt_of_lt_of_le l_R st4.size
        have X : Blk W4 (bX) (g0 (sz a * d)) (g1 (sz a * d)) (g2 (sz a * d)) (g3 (sz a * d)) := HX.out.below st4 l_X
        have l_X : bX < W4.heap.size := Nat.lt_of_lt_of_le l_X st4.size
        have Y : Blk W4 (bY) (g0 (sz c * b)) (g1 (sz c * b)) (g2 (sz c * b)) (g3 (sz c * b)) := HY.out.below st4 l_Y
        have l_Y : bY < W4.heap.size := Nat.lt_of_lt_of_le l_Y st4.size
        have D : Blk W4 (w3.heap.size) (g0 (b * d)) (g1 (b * d)) (g2 (b * d)) (g3 (b * d)) := HD.out.below st4 l_D
        have l_D : w3.heap.size < W4.heap.size := Nat.lt_of_lt_of_le l_D st4.size
        have hBW4 : Below w.heap.size w W4 := hBW3.trans (st4.mono hBW3.size)
        clear hBW3 st4 HA HB HR HX HY HD
        have HA : Hid (Blk2 W4 (w.heap.size) (a) (b)) := A
        have HB : Hid (Blk2 W4 (w.heap.size + 1) (c) (d)) := B
        have HR : Hid (Blk2 W4 (w.heap.size + 1 + 1) (0) (0)) := R
        have HX : Hid (Blk W4 (bX) (g0 (sz a * d)) (g1 (sz a * d)) (g2 (sz a * d)) (g3 (sz a * d))) := X
        have HY : Hid (Blk W4 (bY) (g0 (sz c * b)) (g1 (sz c * b)) (g2 (sz c * b)) (g3 (sz c * b))) := Y
        have HD : Hid (Blk W4 (w3.heap.size) (g0 (b * d)) (g1 (b * d)) (g2 (b * d)) (g3 (b * d))) := D
        clear A B R X Y D
        obtain ⟨X_0, X_1, X_2, X_3, -, -, -, -⟩ := HX.out
        obtain ⟨Y_0, Y_1, Y_2, Y_3, -, -, -, -⟩ := HY.out
        go_wp2_with fail
        refine (rless_any (sz a * d) (sz c * b) _ hY hxy (by omega)).mono ?_
        rintro e w5 ⟨rfl, hb5⟩
        have hz5 := hb5.size
        clear X_0 X_1 X_2 X_3 Y_0 Y_1 Y_2 Y_3
        go_upto_region 12 with fail
        refine wp_world ?_
        intro W5 hW5
        have st5 : Below W4.heap.size W4 W5 := by rw [hW5]; exact (by repeat' (first | (with_reducible exact Below.refl _ _) | (with_reducible assumption) | (with_reducible refine bdrewN _ ?_) | (with_reducible refine Below.alloc ?_ ?_ _) | (with_reducible refine Below.setCell ?_ ?_ _) | (with_reducible refine Below.drew ?_) | go_size | (simp; omega)))
        have Z : Blk W5 (w5.heap.size) (g0 (sz a * d - sz c * b)) (g1 (sz a * d - sz c * b)) (g2 (sz a * d - sz c * b)) (g3 (sz a * d - sz c * b)) := by rw [hW5]; constructor <;> simp (maxDischargeDepth := 12) [go_sem]
        have l_Z : w5.heap.size < W5.heap.size := by rw [hW5]; simp
        clear hW5
        have A : Blk2 W5 (w.heap.size) (a) (b) := HA.out.below st5 l_A
        have l_A : w.heap.size < W5.heap.size := Nat.lt_of_lt_of_le l_A st5.size
        have B : Blk2 W5 (w.heap.size + 1) (c) (d) := HB.out.below st5 l_B
        have l_B : w.heap.size + 1 < W5.heap.size := Nat.lt_of_lt_of_le l_B st5.size
        have R : Blk2 W5 (w.heap.size + 1 + 1) (0) (0) := HR.out.below st5 l_R
        have l_R : w.heap.size + 1 + 1 < W5.heap.size := Nat.lt_of_lt_of_le l_R st5.size
        have X : Blk W5 (bX) (g0 (sz a * d)) (g1 (sz a * d)) (g2 (sz a * d)) (g3 (sz a * d)) := HX.out.below st5 l_X
        have l_X : bX < W5.heap.size := Nat.lt_of_lt_of_le l_X st5.size
        have Y : Blk W5 (bY) (g0 (sz c * b)) (g1 (sz c * b)) (g2 (sz c * b)) (g3 (sz c * b)) := HY.out.below st5 l_Y
        have l_Y : bY < W5.heap.size := Nat.lt_of_lt_of_le l_Y st5.size
        have D : Blk W5 (w3.heap.size) (g0 (b * d)) (g1 (b * d)) (g2 (b * d)) (g3 (b * d)) := HD.out.below st5 l_D
        have l_D : w3.heap.size < W5.heap.size := Nat.lt_of_lt_of_le l_D st5.size
        have hBW5 : Below w.heap.size w W5 := hBW4.trans (st5.mono hBW4.size)
        clear hBW4 st5 HA HB HR HX HY HD
        have HA : Hid (Blk2 W5 (w.heap.size) (a) (b)) := A
        have HB : Hid (Blk2 W5 (w.heap.size + 1) (c) (d)) := B
        have HR : Hid (Blk2 W5 (w.heap.size + 1 + 1) (0) (0)) := R
        have HX : Hid (Blk W5 (bX) (g0 (sz a * d)) (g1 (sz a * d)) (g2 (sz a * d)) (g3 (sz a * d))) := X
        have HY : Hid (Blk W5 (bY) (g0 (sz c * b)) (g1 (sz c * b)) (g2 (sz c * b)) (g3 (sz c * b))) := Y
        have HD : Hid (Blk W5 (w3.heap.size) (g0 (b * d)) (g1 (b * d)) (g2 (b * d)) (g3 (b * d))) := D
        have HZ : Hid (Blk W5 (w5.heap.size) (g0 (sz a * d - sz c * b)) (g1 (sz a * d - sz c * b)) (g2 (sz a * d - sz c * b)) (g3 (sz a * d - sz c * b))) := Z
        clear A B R X Y D Z
        obtain ⟨Z_0, Z_1, Z_2, Z_3, -, -, -, -⟩ := HZ.out
        obtain ⟨D_0, D_1, D_2, D_3, -, -, -, -⟩ := HD.out
        obtain ⟨R_0, R_1, -, -⟩ := HR.out
        have R_2 := HR.out.f0
        have R_3 := HR.out.f1
        have ne_Z : w5.heap.size ≠ w.heap.size + 1 + 1 := by omega
        have ne_D : w3.heap.size ≠ w.heap.size + 1 + 1 := by omega
        go_cut [7] (fun p wx => p = .int .i64 (rE (sg false (sz a * d - sz c * b)) (b * d)) ∧ Blk2 wx (w.heap.size + 1 + 1) (rN (sg false (sz a * d - sz c * b)) (b * d)) (rD (sg false (sz a * d - sz c * b)) (b * d)) ∧ Below w.heap.size w wx)
        case first =>
          refine wp_region_held_drew (S := fun w' => w'.cell? ⟨w5.heap.size, 0, none⟩ = some (.int .u64 (g0 (sz a * d - sz c * b))) ∧ w'.cell? ⟨w5.heap.size, 1, none⟩ = some (.int .u64 (g1 (sz a * d - sz c * b))) ∧ w'.cell? ⟨w5.heap.size, 2, none⟩ = some (.int .u64 (g2 (sz a * d - sz c * b))) ∧ w'.cell? ⟨w5.heap.size, 3, none⟩ = some (.int .u64 (g3 (sz a * d - sz c * b))) ∧ w'.cell? ⟨w3.heap.size, 0, none⟩ = some (.int .u64 (g0 (b * d))) ∧ w'.cell? ⟨w3.heap.size, 1, none⟩ = some (.int .u64 (g1 (b * d))) ∧ w'.cell? ⟨w3.heap.size, 2, none⟩ = some (.int .u64 (g2 (b * d))) ∧ w'.cell? ⟨w3.heap.size, 3, none⟩ = some (.int .u64 (g3 (b * d)))) (by kernel_rfl) ?_ (fun hHeld => ?_)
          · exact ⟨bcl (n := W5.heap.size) (by go_grown) Z_0 (by simp; try omega), bcl (n := W5.heap.size) (by go_grown) Z_1 (by simp; try omega), bcl (n := W5.heap.size) (by go_grown) Z_2 (by simp; try omega), bcl (n := W5.heap.size) (by go_grown) Z_3 (by simp; try omega), bcl (n := W5.heap.size) (by go_grown) D_0 (by simp; try omega), bcl (n := W5.heap.size) (by go_grown) D_1 (by simp; try omega), bcl (n := W5.heap.size) (by go_grown) D_2 (by simp; try omega), bcl (n := W5.heap.size) (by go_grown) D_3 (by simp; try omega)⟩
          refine wpAnyH_take (i := 0) (oi := ({ dst := some 71, op := Op.move (Operand.tmp 11), type := 4, pos := "ref.go:168", after := #[], guard := none } : Oper)) (v := ?yv100) rfl (by kernel_rfl) (by kernel_rfl) (by kernel_rfl) (fun _ _ _ h => h) (Or.inl ⟨by rfl, ?yh100⟩) (by assumption) ?yr100
          case yh100 => (intro wq hSw; (try dsimp only at hSw); go_simp; first | done | with_reducible rfl)
          simp only [Act.put, List.setIfInBounds_toArray, List.set_cons_zero, List.set_cons_succ]
          refine wpAnyH_take (i := 1) (oi := ({ dst := some 72, op := Op.move (Operand.tmp 71), type := 4, pos := "ref.go:168", after := #[{ on := 0, ground := Ground.data }], guard := none } : Oper)) (v := ?yv101) rfl (by kernel_rfl) (by kernel_rfl) (by kernel_rfl) (fun _ _ _ h => h) (Or.inl ⟨by rfl, ?yh101⟩) (by assumption) ?yr101
          case yh101 => (intro wq hSw; (try dsimp only at hSw); go_simp; first | done | with_reducible rfl)
          simp only [Act.put, List.setIfInBounds_toArray, List.set_cons_zero, List.set_cons_succ]
          refine wpAnyH_take (i := 2) (oi := ({ dst := some 73, op := Op.load 70 (Operand.tmp 15), type := 70, pos := "ref.go:168", after := #[{ on := 1, ground := Ground.guard }], guard := some (1, true) } : Oper)) (v := undef) rfl (by kernel_rfl) (by kernel_rfl) (by kernel_rfl) (fun _ _ _ h => h) (Or.inr ⟨by rfl, rfl⟩) (by assumption) ?_
          simp only [Act.put, List.setIfInBounds_toArray, List.set_cons_zero, List.set_cons_succ]
          refine wpAnyH_take (i := 3) (oi := ({ dst := some 74, op := Op.build 70 #[], type := 70, pos := "ref.go:168", after := #[{ on := 1, ground := Ground.guard }], guard := some (1, true) } : Oper)) (v := undef) rfl (by kernel_rfl) (by kernel_rfl) (by kernel_rfl) (fun _ _ _ h => h) (Or.inr ⟨by rfl, rfl⟩) (by assumption) ?_
          simp only [Act.put, List.setIfInBounds_toArray, List.set_cons_zero, List.set_cons_succ]
          refine wpAnyH_take (i := 4) (oi := ({ dst := some 75, op := Op.binOp BinOp.neq 70 (Operand.tmp 73) (Operand.tmp 74) 70, type := 4, pos := "ref.go:168", after := #[{ on := 2, ground := Ground.data }, { on := 3, ground := Ground.data }, { on := 1, ground := Ground.guard }], guard := some (1, true) } : Oper)) (v := undef) rfl (by kernel_rfl) (by kernel_rfl) (by kernel_rfl) (fun _ _ _ h => h) (Or.inr ⟨by rfl, rfl⟩) (by assumption) ?_
          simp only [Act.put, List.setIfInBounds_toArray, List.set_cons_zero, List.set_cons_succ]
          refine wpAnyH_take (i := 5) (oi := ({ dst := some 76, op := Op.pick (Operand.tmp 72) (Operand.tmp 75) (Operand.const (Value.bool false)), type := 4, pos := "ref.go:168", after := #[{ on := 1, ground := Ground.data }, { on := 4, ground := Ground.data }], guard := none } : Oper)) (v := ?yv105) rfl (by kernel_rfl) (by kernel_rfl) (by kernel_rfl) (fun _ _ _ h => h) (Or.inl ⟨by rfl, ?yh105⟩) (by assumption) ?yr105
          case yh105 => (intro wq hSw; (try dsimp only at hSw); go_simp; first | done | with_reducible rfl)
          simp only [Act.put, List.setIfInBounds_toArray, List.set_cons_zero, List.set_cons_succ]
          refine wpAnyH_take (i := 6) (oi := ({ dst := some 77, op := Op.load 70 (Operand.tmp 15), type := 70, pos := "ref.go:168", after := #[], guard := none } : Oper)) (v := ?yv106) rfl (by kernel_rfl) (by kernel_rfl) (by kernel_rfl) (fun _ _ _ h => h) (Or.inl ⟨by rfl, ?yh106⟩) (by assumption) ?yr106
          case yh106 => (intro wq hSw; (try dsimp only at hSw); go_simp; first | done | with_reducible rfl)
          simp only [Act.put, List.setIfInBounds_toArray, List.set_cons_zero, List.set_cons_succ]
          refine wpAnyH_take (i := 7) (oi := ({ dst := some 78, op := Op.load 70 (Operand.tmp 10), type := 70, pos := "ref.go:168", after := #[], guard := none } : Oper)) (v := ?yv107) rfl (by kernel_rfl) (by kernel_rfl) (by kernel_rfl) (fun _ _ _ h => h) (Or.inl ⟨by rfl, ?yh107⟩) (by assumption) ?yr107
          case yh107 => (intro wq hSw; (try dsimp only at hSw); go_simp; first | done | with_reducible rfl)
          simp only [Act.put, List.setIfInBounds_toArray, List.set_cons_zero, List.set_cons_succ]
          refine wpAnyH_ready (rs := [8]) (by kernel_rfl) (by simp) ?_
          refine AllReadyH.cons (o := ({ dst := some 79, op := Op.call { callee := Callee.value (Operand.func 54), args := #[Operand.tmp 76, Operand.tmp 77, Operand.tmp 78], argTypes := #[4, 70, 70] }, type := 53, pos := "ref.go:168", after := #[{ on := 5, ground := Ground.data }, { on := 6, ground := Ground.data }, { on := 7, ground := Ground.data }, { on := 1, ground := Ground.chain }], guard := none } : Oper)) rfl (fun K hK => ?_) AllReadyH.nil
          go_simp
          go_at_call 54; refine (HM.out _).mono ?_; rintro e w1 ⟨rfl, hb1⟩; obtain ⟨hc1, hf1, hz1, hB1, hn1, hm1⟩ := bg (n := W5.heap.size) (W0 := W5) (by go_grown) (by go_size) hb1; have z_R := hm1 _ l_R; have R0' := bcl hB1 R_0 l_R; have R1' := bcl hB1 R_1 l_R; have R2' := bfr hB1 R_2 l_R; have R3' := bfr hB1 R_3 l_R; clear hm1 hc1 hf1
          (try go_wp2_with fail)
          refine hK.out _ _ ?_ (fun hHeld => ?_)
          · exact ⟨bcl (n := W5.heap.size) (by go_grown) Z_0 (by simp; try omega), bcl (n := W5.heap.size) (by go_grown) Z_1 (by simp; try omega), bcl (n := W5.heap.size) (by go_grown) Z_2 (by simp; try omega), bcl (n := W5.heap.size) (by go_grown) Z_3 (by simp; try omega), bcl (n := W5.heap.size) (by go_grown) D_0 (by simp; try omega), bcl (n := W5.heap.size) (by go_grown) D_1 (by simp; try omega), bcl (n := W5.heap.size) (by go_grown) D_2 (by simp; try omega), bcl (n := W5.heap.size) (by go_grown) D_3 (by simp; try omega)⟩
          clear hK K
          try simp only [Act.put, List.setIfInBounds_toArray, List.set_cons_zero, List.set_cons_succ]
          refine wpAnyH_take (i := 9) (oi := ({ dst := some 80, op := Op.extract (Operand.tmp 79) 0, type := 45, pos := "ref.go:168", after := #[{ on := 8, ground := Ground.data }], guard := none } : Oper)) (v := ?yv109) rfl (by kernel_rfl) (by kernel_rfl) (by kernel_rfl) (fun _ _ _ h => h) (Or.inl ⟨by rfl, ?yh109⟩) (by assumption) ?yr109
          case yh109 => (intro wq hSw; (try dsimp only at hSw); go_simp; first | done | with_reducible rfl)
          simp only [Act.put, List.setIfInBounds_toArray, List.set_cons_zero, List.set_cons_succ]
          refine wpAnyH_take (i := 10) (oi := ({ dst := some 81, op := Op.extract (Operand.tmp 79) 1, type := 24, pos := "ref.go:168", after := #[{ on := 8, ground := Ground.data }], guard := none } : Oper)) (v := ?yv110) rfl (by kernel_rfl) (by kernel_rfl) (by kernel_rfl) (fun _ _ _ h => h) (Or.inl ⟨by rfl, ?yh110⟩) (by assumption) ?yr110
          case yh110 => (intro wq hSw; (try dsimp only at hSw); go_simp; first | done | with_reducible rfl)
          simp only [Act.put, List.setIfInBounds_toArray, List.set_cons_zero, List.set_cons_succ]
          refine wpAnyH_ready (rs := [11]) (by kernel_rfl) (by simp) ?_
          refine AllReadyH.cons (o := ({ dst := none, op := Op.store 45 (Operand.tmp 6) (Operand.tmp 80), type := 0, pos := "ref.go:168", after := #[{ on := 9, ground := Ground.data }, { on := 8, ground := Ground.chain }, { on := 0, ground := Ground.phase }, { on := 1, ground := Ground.phase }, { on := 2, ground := Ground.phase }, { on := 3, ground := Ground.phase }, { on := 4, ground := Ground.phase }, { on := 5, ground := Ground.phase }, { on := 6, ground := Ground.phase }, { on := 7, ground := Ground.phase }, { on := 8, ground := Ground.phase }, { on := 9, ground := Ground.phase }, { on := 10, ground := Ground.phase }], guard := none } : Oper)) rfl (fun K hK => ?_) AllReadyH.nil
          go_simp
          refine hK.out _ _ ?_ (fun hHeld => ?_)
          · exact ⟨kc2 hB1 Z_0 l_Z ne_Z, kc2 hB1 Z_1 l_Z ne_Z, kc2 hB1 Z_2 l_Z ne_Z, kc2 hB1 Z_3 l_Z ne_Z, kc2 hB1 D_0 l_D ne_D, kc2 hB1 D_1 l_D ne_D, kc2 hB1 D_2 l_D ne_D, kc2 hB1 D_3 l_D ne_D⟩
          clear hK K
          try simp only [Act.put, List.setIfInBounds_toArray, List.set_cons_zero, List.set_cons_succ]
          refine wpAnyH_take (i := 12) (oi := ({ dst := some 7, op := Op.assign (Operand.tmp 81), type := 24, pos := "ref.go:168", after := #[{ on := 10, ground := Ground.data }, { on := 11, ground := Ground.chain }, { on := 0, ground := Ground.phase }, { on := 1, ground := Ground.phase }, { on := 2, ground := Ground.phase }, { on := 3, ground := Ground.phase }, { on := 4, ground := Ground.phase }, { on := 5, ground := Ground.phase }, { on := 6, ground := Ground.phase }, { on := 7, ground := Ground.phase }, { on := 8, ground := Ground.phase }, { on := 9, ground := Ground.phase }, { on := 10, ground := Ground.phase }, { on := 11, ground := Ground.phase }], guard := none } : Oper)) (v := ?yv112) rfl (by kernel_rfl) (by kernel_rfl) (by kernel_rfl) (fun _ _ _ h => h) (Or.inl ⟨by rfl, ?yh112⟩) (by assumption) ?yr112
          case yh112 => (intro wq hSw; (try dsimp only at hSw); go_simp; first | done | with_reducible rfl)
          simp only [Act.put, List.setIfInBounds_toArray, List.set_cons_zero, List.set_cons_succ]
          refine wpAnyH_done (by kernel_rfl) ?_ _
          (try go_wp2)
          go_meet
          case rel =>
            have hBx : Below w.heap.size w w1 := hBW5.trans (hB1.mono hBW5.size)
            refine ⟨rfl, ?_, ?_⟩
            · first
                | exact (HR.out.below hB1 l_R).two _ _
                | exact ((HR.out.below hB1 l_R).two _ _).drewN _
                | (constructor <;> simp (maxDischargeDepth := 8) [go_sem, *])
            · exact (by repeat' (first | (with_reducible exact Below.refl _ _) | (with_reducible assumption) | (with_reducible refine bdrewN _ ?_) | (with_reducible refine Below.alloc ?_ ?_ _) | (with_reducible refine Below.setCell ?_ ?_ _) | (with_reducible refine Below.drew ?_) | go_size | (simp; omega)))
        case rest =>
          obtain ⟨rfl, b9, hB9⟩ := hcut
          obtain ⟨x0, x1, -, -⟩ := b9
          clear HM R_2 R_3 Z_0 Z_1 Z_2 Z_3 D_0 D_1 D_2 D_3 R_0 R_1 hBW5
          go_wp2
          refine bodyPost_ret (by simp [results, Tryz.results53, go_sem, x0, x1]; try rfl) rfl ?_
          exact ⟨rfl, hB9⟩
      · obtain ⟨cc, ecc⟩ : ∃ cc : Int, Hid (cmpI (sz a * d) (sz c * b) = cc) := ⟨_, rfl⟩
        have hcc : cc < 0 := by rw [← ecc.out]; unfold cmpI; split <;> (try split) <;> omega
        have hcf : (0 ≤ cc) = False := by simp; omega
        have HA : Hid (Blk2 W3 (w.heap.size) (a) (b)) := A
        have HB : Hid (Blk2 W3 (w.heap.size + 1) (c) (d)) := B
        have HR : Hid (Blk2 W3 (w.heap.size + 1 + 1) (0) (0)) := R
        have HX : Hid (Blk W3 (bX) (g0 (sz a * d)) (g1 (sz a * d)) (g2 (sz a * d)) (g3 (sz a * d))) := X
        have HY : Hid (Blk W3 (bY) (g0 (sz c * b)) (g1 (sz c * b)) (g2 (sz c * b)) (g3 (sz c * b))) := Y
        have HD : Hid (Blk W3 (w3.heap.size) (g0 (b * d)) (g1 (b * d)) (g2 (b * d)) (g3 (b * d))) := D
        clear A B R X Y D
        obtain ⟨X_0, X_1, X_2, X_3, -, -, -, -⟩ := HX.out
        obtain ⟨Y_0, Y_1, Y_2, Y_3, -, -, -, -⟩ := HY.out
        go_wp2_with fail
        refine (rcompare_any (sz a * d) (sz c * b) _ hX (by omega) hY (by omega)).mono ?_
        rintro e w4 ⟨rfl, hb4⟩
        clear X_0 X_1 X_2 X_3 Y_0 Y_1 Y_2 Y_3
        rw [ecc.out]
        go_upto_region 10 with fail
        refine wp_world ?_
        intro W4 hW4
        have st4 : Below W3.heap.size W3 W4 := by rw [hW4]; exact (by repeat' (first | (with_reducible exact Below.refl _ _) | (with_reducible assumption) | (with_reducible refine bdrewN _ ?_) | (with_reducible refine Below.alloc ?_ ?_ _) | (with_reducible refine Below.setCell ?_ ?_ _) | (with_reducible refine Below.drew ?_) | go_size | (simp; omega)))
        clear hW4 hb4
        have A : Blk2 W4 (w.heap.size) (a) (b) := HA.out.below st4 l_A
        have l_A : w.heap.size < W4.heap.size := Nat.lt_of_lt_of_le l_A st4.size
        have B : Blk2 W4 (w.heap.size + 1) (c) (d) := HB.out.below st4 l_B
        have l_B : w.heap.size + 1 < W4.heap.size := Nat.lt_of_lt_of_le l_B st4.size
        have R : Blk2 W4 (w.heap.size + 1 + 1) (0) (0) := HR.out.below st4 l_R
        have l_R : w.heap.size + 1 + 1 < W4.heap.size := Nat.lt_of_lt_of_le l_R st4.size
        have X : Blk W4 (bX) (g0 (sz a * d)) (g1 (sz a * d)) (g2 (sz a * d)) (g3 (sz a * d)) := HX.out.below st4 l_X
        have l_X : bX < W4.heap.size := Nat.lt_of_lt_of_le l_X st4.size
        have Y : Blk W4 (bY) (g0 (sz c * b)) (g1 (sz c * b)) (g2 (sz c * b)) (g3 (sz c * b)) := HY.out.below st4 l_Y
        have l_Y : bY < W4.heap.size := Nat.lt_of_lt_of_le l_Y st4.size
        have D : Blk W4 (w3.heap.size) (g0 (b * d)) (g1 (b * d)) (g2 (b * d)) (g3 (b * d)) := HD.out.below st4 l_D
        have l_D : w3.heap.size < W4.heap.size := Nat.lt_of_lt_of_le l_D st4.size
        have hBW4 : Below w.heap.size w W4 := hBW3.trans (st4.mono hBW3.size)
        clear hBW3 st4 HA HB HR HX HY HD
        have HA : Hid (Blk2 W4 (w.heap.size) (a) (b)) := A
        have HB : Hid (Blk2 W4 (w.heap.size + 1) (c) (d)) := B
        have HR : Hid (Blk2 W4 (w.heap.size + 1 + 1) (0) (0)) := R
        have HX : Hid (Blk W4 (bX) (g0 (sz a * d)) (g1 (sz a * d)) (g2 (sz a * d)) (g3 (sz a * d))) := X
        have HY : Hid (Blk W4 (bY) (g0 (sz c * b)) (g1 (sz c * b)) (g2 (sz c * b)) (g3 (sz c * b))) := Y
        have HD : Hid (Blk W4 (w3.heap.size) (g0 (b * d)) (g1 (b * d)) (g2 (b * d)) (g3 (b * d))) := D
        clear A B R X Y D
        obtain ⟨X_0, X_1, X_2, X_3, -, -, -, -⟩ := HX.out
        obtain ⟨Y_0, Y_1, Y_2, Y_3, -, -, -, -⟩ := HY.out
        go_wp2_with fail
        refine (rless_any (sz c * b) (sz a * d) _ hX (by omega) (by omega)).mono ?_
        rintro e w5 ⟨rfl, hb5⟩
        have hz5 := hb5.size
        clear X_0 X_1 X_2 X_3 Y_0 Y_1 Y_2 Y_3
        go_upto_region 14 with fail
        refine wp_world ?_
        intro W5 hW5
        have st5 : Below W4.heap.size W4 W5 := by rw [hW5]; exact (by repeat' (first | (with_reducible exact Below.refl _ _) | (with_reducible assumption) | (with_reducible refine bdrewN _ ?_) | (with_reducible refine Below.alloc ?_ ?_ _) | (with_reducible refine Below.setCell ?_ ?_ _) | (with_reducible refine Below.drew ?_) | go_size | (simp; omega)))
        have Z : Blk W5 (w5.heap.size) (g0 (sz c * b - sz a * d)) (g1 (sz c * b - sz a * d)) (g2 (sz c * b - sz a * d)) (g3 (sz c * b - sz a * d)) := by rw [hW5]; constructor <;> simp (maxDischargeDepth := 12) [go_sem]
        have l_Z : w5.heap.size < W5.heap.size := by rw [hW5]; simp
        clear hW5
        have A : Blk2 W5 (w.heap.size) (a) (b) := HA.out.below st5 l_A
        have l_A : w.heap.size < W5.heap.size := Nat.lt_of_lt_of_le l_A st5.size
        have B : Blk2 W5 (w.heap.size + 1) (c) (d) := HB.out.below st5 l_B
        have l_B : w.heap.size + 1 < W5.heap.size := Nat.lt_of_lt_of_le l_B st5.size
        have R : Blk2 W5 (w.heap.size + 1 + 1) (0) (0) := HR.out.below st5 l_R
        have l_R : w.heap.size + 1 + 1 < W5.heap.size := Nat.lt_of_lt_of_le l_R st5.size
        have X : Blk W5 (bX) (g0 (sz a * d)) (g1 (sz a * d)) (g2 (sz a * d)) (g3 (sz a * d)) := HX.out.below st5 l_X
        have l_X : bX < W5.heap.size := Nat.lt_of_lt_of_le l_X st5.size
        have Y : Blk W5 (bY) (g0 (sz c * b)) (g1 (sz c * b)) (g2 (sz c * b)) (g3 (sz c * b)) := HY.out.below st5 l_Y
        have l_Y : bY < W5.heap.size := Nat.lt_of_lt_of_le l_Y st5.size
        have D : Blk W5 (w3.heap.size) (g0 (b * d)) (g1 (b * d)) (g2 (b * d)) (g3 (b * d)) := HD.out.below st5 l_D
        have l_D : w3.heap.size < W5.heap.size := Nat.lt_of_lt_of_le l_D st5.size
        have hBW5 : Below w.heap.size w W5 := hBW4.trans (st5.mono hBW4.size)
        clear hBW4 st5 HA HB HR HX HY HD
        have HA : Hid (Blk2 W5 (w.heap.size) (a) (b)) := A
        have HB : Hid (Blk2 W5 (w.heap.size + 1) (c) (d)) := B
        have HR : Hid (Blk2 W5 (w.heap.size + 1 + 1) (0) (0)) := R
        have HX : Hid (Blk W5 (bX) (g0 (sz a * d)) (g1 (sz a * d)) (g2 (sz a * d)) (g3 (sz a * d))) := X
        have HY : Hid (Blk W5 (bY) (g0 (sz c * b)) (g1 (sz c * b)) (g2 (sz c * b)) (g3 (sz c * b))) := Y
        have HD : Hid (Blk W5 (w3.heap.size) (g0 (b * d)) (g1 (b * d)) (g2 (b * d)) (g3 (b * d))) := D
        have HZ : Hid (Blk W5 (w5.heap.size) (g0 (sz c * b - sz a * d)) (g1 (sz c * b - sz a * d)) (g2 (sz c * b - sz a * d)) (g3 (sz c * b - sz a * d))) := Z
        clear A B R X Y D Z
        obtain ⟨Z_0, Z_1, Z_2, Z_3, -, -, -, -⟩ := HZ.out
        obtain ⟨D_0, D_1, D_2, D_3, -, -, -, -⟩ := HD.out
        obtain ⟨R_0, R_1, -, -⟩ := HR.out
        have R_2 := HR.out.f0
        have R_3 := HR.out.f1
        have ne_Z : w5.heap.size ≠ w.heap.size + 1 + 1 := by omega
        have ne_D : w3.heap.size ≠ w.heap.size + 1 + 1 := by omega
        go_cut [7] (fun p wx => p = .int .i64 (rE (sg true (sz c * b - sz a * d)) (b * d)) ∧ Blk2 wx (w.heap.size + 1 + 1) (rN (sg true (sz c * b - sz a * d)) (b * d)) (rD (sg true (sz c * b - sz a * d)) (b * d)) ∧ Below w.heap.size w wx)
        case first =>
          go_wp2_with (first
                | (go_at_call 54; refine (HM.out _).mono ?_; rintro e w1 ⟨rfl, hb1⟩; obtain ⟨hc1, hf1, hz1, hB1, hn1, hm1⟩ := bg (n := W5.heap.size) (W0 := W5) (by go_grown) (by go_size) hb1; have z_R := hm1 _ l_R; have R0' := bcl hB1 R_0 l_R; have R1' := bcl hB1 R_1 l_R; have R2' := bfr hB1 R_2 l_R; have R3' := bfr hB1 R_3 l_R; clear hm1 hc1 hf1))
          (try go_wp2)
          go_meet
          case rel =>
            have hBx : Below w.heap.size w w1 := hBW5.trans (hB1.mono hBW5.size)
            refine ⟨rfl, ?_, ?_⟩
            · first
                | exact (HR.out.below hB1 l_R).two _ _
                | exact ((HR.out.below hB1 l_R).two _ _).drewN _
                | (constructor <;> simp (maxDischargeDepth := 8) [go_sem, *])
            · exact (by repeat' (first | (with_reducible exact Below.refl _ _) | (with_reducible assumption) | (with_reducible refine bdrewN _ ?_) | (with_reducible refine Below.alloc ?_ ?_ _) | (with_reducible refine Below.setCell ?_ ?_ _) | (with_reducible refine Below.drew ?_) | go_size | (simp; omega)))
        case rest =>
          obtain ⟨rfl, b9, hB9⟩ := hcut
          obtain ⟨x0, x1, -, -⟩ := b9
          clear HM R_2 R_3 Z_0 Z_1 Z_2 Z_3 D_0 D_1 D_2 D_3 R_0 R_1 hBW5
          go_wp2
          refine bodyPost_ret (by simp [results, Tryz.results53, go_sem, x0, x1]; try rfl) rfl ?_
          exact ⟨rfl, hB9⟩

end Go.Proofs.YtedoahibceeklaaGreatDoor

namespace Go.Proofs.YtedoahibceeklaaGreatDoor
open Go.RowKit

theorem docbdS {x y : Int} (hx : 0 ≤ x) (hx' : x ≤ 9223372036854775808) (hy : 0 ≤ y) (hy' : y ≤ 9223372036854775808) : 0 ≤ x * y ∧ x * y ≤ 85070591730234615865843651857942052864 := by
  have h := mul_bd hx hx' hy hy'
  exact ⟨h.1, by omega⟩
/-- A product by signs and sizes; where it is 0 the sign does not matter. -/
theorem docsgS (a c : Int) : sg (decide (a < 0) != decide (c < 0)) (sz a * sz c) = a * c := by
  unfold sg
  by_cases h1 : a < 0 <;> by_cases h2 : c < 0
  · rw [sz_of_neg h1, sz_of_neg h2]; simp [h1, h2] <;> grind
  · rw [sz_of_neg h1, sz_of_nonneg (show 0 ≤ c by omega)]; simp [h1, h2] <;> grind
  · rw [sz_of_nonneg (show 0 ≤ a by omega), sz_of_neg h2]; simp [h1, h2] <;> grind
  · rw [sz_of_nonneg (show 0 ≤ a by omega), sz_of_nonneg (show 0 ≤ c by omega)]; simp [h1, h2] <;> grind
theorem doczeroS (b : Bool) : sg b 0 = 0 := by unfold sg; split <;> rfl

theorem rsum_yes (minus : Bool) (a b c d : Int) (w : World) (ha : -9223372036854775808 ≤ a) (ha' : a ≤ 9223372036854775807) (hb : -9223372036854775808 ≤ b) (hb' : b ≤ 9223372036854775807) (hc : -9223372036854775808 ≤ c) (hc' : c ≤ 9223372036854775807) (hd : -9223372036854775808 ≤ d) (hd' : d ≤ 9223372036854775807) (m1 : mayB a b = true) (m2 : mayB c d = true) :
    Calls Tryz.prog 53 #[.agg #[.int .i64 a, .int .i64 b], .agg #[.int .i64 c, .int .i64 d], .bool minus] w fun e w' => e = .returned (.tuple #[.agg #[.int .i64 (rN (a * d + sg minus (c * b)) (b * d)), .int .i64 (rD (a * d + sg minus (c * b)) (b * d))], .int .i64 (rE (a * d + sg minus (c * b)) (b * d))]) ∧ Below w.heap.size w w' := by
  have pb := (may_of m1).1
  have pd := (may_of m2).1
  have za := sz_nonneg a
  have zc := sz_nonneg c
  have za' := sz_le ha ha'
  have zc' := sz_le hc hc'
  have kX := docbdS za za' (show 0 ≤ d by omega) (by omega)
  have kY := docbdS zc zc' (show 0 ≤ b by omega) (by omega)
  have kD := docbdS (show 0 ≤ b by omega) (by omega) (show 0 ≤ d by omega) (by omega)
  have kD0 : 0 < b * d := Int.mul_pos pb pd
  have eX : a * d = sg (decide (a < 0)) (sz a * d) := by
    unfold sg; by_cases h : a < 0
    · rw [sz_of_neg h]; simp [h] <;> grind
    · rw [sz_of_nonneg (show 0 ≤ a by omega)]; simp [h] <;> grind
  have eY : sg minus (c * b) = sg (!(decide (c < 0) == minus)) (sz c * b) := by
    unfold sg; by_cases h : c < 0 <;> cases minus
    · rw [sz_of_neg h]; simp [h] <;> grind
    · rw [sz_of_neg h]; simp [h] <;> grind
    · rw [sz_of_nonneg (show 0 ≤ c by omega)]; simp [h] <;> grind
    · rw [sz_of_nonneg (show 0 ≤ c by omega)]; simp [h] <;> grind
  rw [eX, eY]
  have RAWA := fun (p q s : Bool) (n : Int) (h1 : decide (a < 0) = p) (h2 : (!(decide (c < 0) == minus)) = q) (h3 : 0 ≤ n) (h4 : n ≤ 170141183460469231731687303715884105728) (h5 : s = true → 0 < n) => rsum_rawA p q s minus a b c d n w ha ha' hb hb' hc hc' hd hd' pb pd za za' zc zc' kX.1 kX.2 kY.1 kY.2 h1 h2 (fun W => rmade_r s n (b * d) W h3 h4 kD0 (by omega) h5)
  have RAWB := fun (p q s : Bool) (n : Int) (h1 : decide (a < 0) = p) (h2 : (!(decide (c < 0) == minus)) = q) (h3 : 0 ≤ n) (h4 : n ≤ 170141183460469231731687303715884105728) (h5 : s = true → 0 < n) => rsum_rawB p q s minus a b c d n w ha ha' hb hb' hc hc' hd hd' pb pd za za' zc zc' kX.1 kX.2 kY.1 kY.2 h1 h2 (fun W => rmade_r s n (b * d) W h3 h4 kD0 (by omega) h5)
  have RAWC := fun (p q s : Bool) (n : Int) (h1 : decide (a < 0) = p) (h2 : (!(decide (c < 0) == minus)) = q) (h3 : 0 ≤ n) (h4 : n ≤ 170141183460469231731687303715884105728) (h5 : s = true → 0 < n) => rsum_rawC p q s minus a b c d n w ha ha' hb hb' hc hc' hd hd' pb pd za za' zc zc' kX.1 kX.2 kY.1 kY.2 h1 h2 (fun W => rmade_r s n (b * d) W h3 h4 kD0 (by omega) h5)
  generalize hp : decide (a < 0) = p at *
  generalize hq : (!(decide (c < 0) == minus)) = q at *
  generalize sz a * d = X at *
  generalize sz c * b = Y at *
  cases p <;> cases q
  · have e : sg false X + sg false Y = sg false (X + Y) := rfl
    rw [e]
    exact RAWA false false false (X + Y) rfl rfl (by omega) (by omega) (by simp) (Or.inr (Or.inr ⟨rfl, rfl, rfl, rfl⟩))
  · by_cases h : Y ≤ X
    · have e : sg false X + sg true Y = sg false (X - Y) := by unfold sg; simp; omega
      rw [e]
      exact RAWC false true false (X - Y) rfl rfl (by omega) (by omega) (by simp) (Or.inl ⟨rfl, rfl, rfl, rfl, h⟩)
    · have e : sg false X + sg true Y = sg true (Y - X) := by unfold sg; simp; omega
      rw [e]
      exact RAWC false true true (Y - X) rfl rfl (by omega) (by omega) (by omega) (Or.inr ⟨rfl, rfl, rfl, rfl, by omega⟩)
  · by_cases h : Y ≤ X
    · by_cases hz : X - Y = 0
      · have dz : g0 (X - Y) = 0 ∧ g1 (X - Y) = 0 ∧ g2 (X - Y) = 0 ∧ g3 (X - Y) = 0 := by rw [hz]; exact g_zero
        have e : sg true X + sg false Y = sg false (X - Y) := by unfold sg; simp; omega
        rw [e]
        exact RAWB true false false (X - Y) rfl rfl (by omega) (by omega) (by simp) (Or.inr (Or.inl ⟨rfl, rfl, rfl, rfl, h, dz⟩))
      · have e : sg true X + sg false Y = sg true (X - Y) := by unfold sg; simp; omega
        rw [e]
        exact RAWB true false true (X - Y) rfl rfl (by omega) (by omega) (by omega) (Or.inl ⟨rfl, rfl, rfl, rfl, h, g_pos _ (by omega) (by omega) hz⟩)
    · have e : sg true X + sg false Y = sg false (Y - X) := by unfold sg; simp; omega
      rw [e]
      exact RAWB true false false (Y - X) rfl rfl (by omega) (by omega) (by simp) (Or.inr (Or.inr ⟨rfl, rfl, rfl, rfl, by omega⟩))
  · by_cases hz : X + Y = 0
    · have dz : g0 (X + Y) = 0 ∧ g1 (X + Y) = 0 ∧ g2 (X + Y) = 0 ∧ g3 (X + Y) = 0 := by rw [hz]; exact g_zero
      have e : sg true X + sg true Y = sg false (X + Y) := by unfold sg; simp; omega
      rw [e]
      exact RAWA true true false (X + Y) rfl rfl (by omega) (by omega) (by simp) (Or.inr (Or.inl ⟨rfl, rfl, rfl, rfl, dz⟩))
    · have e : sg true X + sg true Y = sg true (X + Y) := by unfold sg; simp; omega
      rw [e]
      exact RAWA true true true (X + Y) rfl rfl (by omega) (by omega) (by omega) (Or.inl ⟨rfl, rfl, rfl, rfl, g_pos _ (by omega) (by omega) hz⟩)

set_option maxRecDepth 100000 in
set_option maxHeartbeats 1000000 in
theorem radd_no1 (a b c d : Int) (w : World) (ha : -9223372036854775808 ≤ a) (ha' : a ≤ 9223372036854775807) (hb : -9223372036854775808 ≤ b) (hb' : b ≤ 9223372036854775807) (hc : -9223372036854775808 ≤ c) (hc' : c ≤ 9223372036854775807) (hd : -9223372036854775808 ≤ d) (hd' : d ≤ 9223372036854775807) (m1 : mayB a b = false) :
    Calls Tryz.prog 37 #[.agg #[.int .i64 a, .int .i64 b], .agg #[.int .i64 c, .int .i64 d]] w fun e w' => e = .returned (.tuple #[.agg #[.int .i64 0, .int .i64 0], .int .i64 1]) ∧ Below w.heap.size w w' := by
  go_enter Tryz.func37, Tryz.ntmps37
  go_upto_region 1 with fail
  refine wp_world ?_
  intro W0 hW0
  have A : Blk2 W0 (w.heap.size) (a) (b) := by rw [hW0]; constructor <;> simp (maxDischargeDepth := 12) [go_sem]
  have l_A : w.heap.size < W0.heap.size := by rw [hW0]; first | (simp; done) | (simp; omega)
  have B : Blk2 W0 (w.heap.size + 1) (c) (d) := by rw [hW0]; constructor <;> simp (maxDischargeDepth := 12) [go_sem]
  have l_B : w.heap.size + 1 < W0.heap.size := by rw [hW0]; first | (simp; done) | (simp; omega)
  have R : Blk2 W0 (w.heap.size + 1 + 1) (0) (0) := by rw [hW0]; constructor <;> simp (maxDischargeDepth := 12) [go_sem]
  have l_R : w.heap.size + 1 + 1 < W0.heap.size := by rw [hW0]; first | (simp; done) | (simp; omega)
  have hB0 : Below w.heap.size w W0 := by rw [hW0]; exact (by repeat' (first | (with_reducible exact Below.refl _ _) | (with_reducible assumption) | (with_reducible refine bdrewN _ ?_) | (with_reducible refine Below.alloc ?_ ?_ _) | (with_reducible refine Below.setCell ?_ ?_ _) | (with_reducible refine Below.drew ?_) | go_size | (simp; omega)))
  clear hW0
  have HA : Hid (Blk2 W0 (w.heap.size) (a) (b)) := A
  have HB : Hid (Blk2 W0 (w.heap.size + 1) (c) (d)) := B
  have HR : Hid (Blk2 W0 (w.heap.size + 1 + 1) (0) (0)) := R
  clear A B R
  obtain ⟨A_0, A_1, -, -⟩ := HA.out
  go_wp2_with fail
  refine (rmay_any a b _ ha ha' hb hb').mono ?_
  rintro e w1 ⟨rfl, hb1⟩
  rw [m1]
  have hs1 := hb1.size
  have b1 := HB.out.below hb1 l_B
  obtain ⟨x0, x1, -, -⟩ := b1
  go_wp2_with fail
  refine (rmay_any c d _ hc hc' hd hd').mono ?_
  rintro e w2 ⟨rfl, hb2⟩
  have hB2 : Below w.heap.size w w2 := (hB0.trans (hb1.mono hB0.size)).trans (hb2.mono (by have := hB0.size; omega))
  have bR := (HR.out.below hb1 l_R).below hb2 (by omega)
  have bB := (HB.out.below hb1 l_B).below hb2 (by omega)
  have bRR : Hid (Blk2 w2 (w.heap.size + 1 + 1) 0 0) := bR
  obtain ⟨r0, r1, r2, r3⟩ := bR
  obtain ⟨y0, y1, -, -⟩ := bB
  clear x0 x1 A_0 A_1 hb1 hb2 hs1
  go_wp2
  generalize hW9 : World.setCell _ _ _ = W9
  have b9 := bRR.out.two 0 0
  rw [hW9] at b9
  have hB9 : Below w.heap.size w W9 := by rw [← hW9]; exact (by repeat' (first | (with_reducible exact Below.refl _ _) | (with_reducible assumption) | (with_reducible refine bdrewN _ ?_) | (with_reducible refine Below.alloc ?_ ?_ _) | (with_reducible refine Below.setCell ?_ ?_ _) | (with_reducible refine Below.drew ?_) | go_size | (simp; omega)))
  clear hW9
  obtain ⟨z0, z1, -, -⟩ := b9
  refine bodyPost_ret (by simp [results, Tryz.results37, go_sem, z0, z1]; try rfl) rfl ?_
  exact ⟨rfl, hB9⟩

set_option maxRecDepth 100000 in
set_option maxHeartbeats 1000000 in
theorem radd_no2 (a b c d : Int) (w : World) (ha : -9223372036854775808 ≤ a) (ha' : a ≤ 9223372036854775807) (hb : -9223372036854775808 ≤ b) (hb' : b ≤ 9223372036854775807) (hc : -9223372036854775808 ≤ c) (hc' : c ≤ 9223372036854775807) (hd : -9223372036854775808 ≤ d) (hd' : d ≤ 9223372036854775807) (m1 : mayB a b = true) (m2 : mayB c d = false) :
    Calls Tryz.prog 37 #[.agg #[.int .i64 a, .int .i64 b], .agg #[.int .i64 c, .int .i64 d]] w fun e w' => e = .returned (.tuple #[.agg #[.int .i64 0, .int .i64 0], .int .i64 1]) ∧ Below w.heap.size w w' := by
  go_enter Tryz.func37, Tryz.ntmps37
  go_upto_region 1 with fail
  refine wp_world ?_
  intro W0 hW0
  have A : Blk2 W0 (w.heap.size) (a) (b) := by rw [hW0]; constructor <;> simp (maxDischargeDepth := 12) [go_sem]
  have l_A : w.heap.size < W0.heap.size := by rw [hW0]; first | (simp; done) | (simp; omega)
  have B : Blk2 W0 (w.heap.size + 1) (c) (d) := by rw [hW0]; constructor <;> simp (maxDischargeDepth := 12) [go_sem]
  have l_B : w.heap.size + 1 < W0.heap.size := by rw [hW0]; first | (simp; done) | (simp; omega)
  have R : Blk2 W0 (w.heap.size + 1 + 1) (0) (0) := by rw [hW0]; constructor <;> simp (maxDischargeDepth := 12) [go_sem]
  have l_R : w.heap.size + 1 + 1 < W0.heap.size := by rw [hW0]; first | (simp; done) | (simp; omega)
  have hB0 : Below w.heap.size w W0 := by rw [hW0]; exact (by repeat' (first | (with_reducible exact Below.refl _ _) | (with_reducible assumption) | (with_reducible refine bdrewN _ ?_) | (with_reducible refine Below.alloc ?_ ?_ _) | (with_reducible refine Below.setCell ?_ ?_ _) | (with_reducible refine Below.drew ?_) | go_size | (simp; omega)))
  clear hW0
  have HA : Hid (Blk2 W0 (w.heap.size) (a) (b)) := A
  have HB : Hid (Blk2 W0 (w.heap.size + 1) (c) (d)) := B
  have HR : Hid (Blk2 W0 (w.heap.size + 1 + 1) (0) (0)) := R
  clear A B R
  obtain ⟨A_0, A_1, -, -⟩ := HA.out
  go_wp2_with fail
  refine (rmay_any a b _ ha ha' hb hb').mono ?_
  rintro e w1 ⟨rfl, hb1⟩
  rw [m1]
  have hs1 := hb1.size
  have b1 := HB.out.below hb1 l_B
  obtain ⟨x0, x1, -, -⟩ := b1
  go_wp2_with fail
  refine (rmay_any c d _ hc hc' hd hd').mono ?_
  rintro e w2 ⟨rfl, hb2⟩
  rw [m2]
  have hB2 : Below w.heap.size w w2 := (hB0.trans (hb1.mono hB0.size)).trans (hb2.mono (by have := hB0.size; omega))
  have bR := (HR.out.below hb1 l_R).below hb2 (by omega)
  have bB := (HB.out.below hb1 l_B).below hb2 (by omega)
  have bRR : Hid (Blk2 w2 (w.heap.size + 1 + 1) 0 0) := bR
  obtain ⟨r0, r1, r2, r3⟩ := bR
  obtain ⟨y0, y1, -, -⟩ := bB
  clear x0 x1 A_0 A_1 hb1 hb2 hs1
  go_wp2
  generalize hW9 : World.setCell _ _ _ = W9
  have b9 := bRR.out.two 0 0
  rw [hW9] at b9
  have hB9 : Below w.heap.size w W9 := by rw [← hW9]; exact (by repeat' (first | (with_reducible exact Below.refl _ _) | (with_reducible assumption) | (with_reducible refine bdrewN _ ?_) | (with_reducible refine Below.alloc ?_ ?_ _) | (with_reducible refine Below.setCell ?_ ?_ _) | (with_reducible refine Below.drew ?_) | go_size | (simp; omega)))
  clear hW9
  obtain ⟨z0, z1, -, -⟩ := b9
  refine bodyPost_ret (by simp [results, Tryz.results37, go_sem, z0, z1]; try rfl) rfl ?_
  exact ⟨rfl, hB9⟩

set_option maxRecDepth 100000 in
set_option maxHeartbeats 1000000 in
theorem radd_yes (a b c d : Int) (w : World) (ha : -9223372036854775808 ≤ a) (ha' : a ≤ 9223372036854775807) (hb : -9223372036854775808 ≤ b) (hb' : b ≤ 9223372036854775807) (hc : -9223372036854775808 ≤ c) (hc' : c ≤ 9223372036854775807) (hd : -9223372036854775808 ≤ d) (hd' : d ≤ 9223372036854775807) (m1 : mayB a b = true) (m2 : mayB c d = true) :
    Calls Tryz.prog 37 #[.agg #[.int .i64 a, .int .i64 b], .agg #[.int .i64 c, .int .i64 d]] w fun e w' => e = .returned (.tuple #[.agg #[.int .i64 (rN (a * d + sg false (c * b)) (b * d)), .int .i64 (rD (a * d + sg false (c * b)) (b * d))], .int .i64 (rE (a * d + sg false (c * b)) (b * d))]) ∧ Below w.heap.size w w' := by
  go_enter Tryz.func37, Tryz.ntmps37
  go_upto_region 1 with fail
  refine wp_world ?_
  intro W0 hW0
  have A : Blk2 W0 (w.heap.size) (a) (b) := by rw [hW0]; constructor <;> simp (maxDischargeDepth := 12) [go_sem]
  have l_A : w.heap.size < W0.heap.size := by rw [hW0]; first | (simp; done) | (simp; omega)
  have B : Blk2 W0 (w.heap.size + 1) (c) (d) := by rw [hW0]; constructor <;> simp (maxDischargeDepth := 12) [go_sem]
  have l_B : w.heap.size + 1 < W0.heap.size := by rw [hW0]; first | (simp; done) | (simp; omega)
  have R : Blk2 W0 (w.heap.size + 1 + 1) (0) (0) := by rw [hW0]; constructor <;> simp (maxDischargeDepth := 12) [go_sem]
  have l_R : w.heap.size + 1 + 1 < W0.heap.size := by rw [hW0]; first | (simp; done) | (simp; omega)
  have hB0 : Below w.heap.size w W0 := by rw [hW0]; exact (by repeat' (first | (with_reducible exact Below.refl _ _) | (with_reducible assumption) | (with_reducible refine bdrewN _ ?_) | (with_reducible refine Below.alloc ?_ ?_ _) | (with_reducible refine Below.setCell ?_ ?_ _) | (with_reducible refine Below.drew ?_) | go_size | (simp; omega)))
  clear hW0
  have HA : Hid (Blk2 W0 (w.heap.size) (a) (b)) := A
  have HB : Hid (Blk2 W0 (w.heap.size + 1) (c) (d)) := B
  have HR : Hid (Blk2 W0 (w.heap.size + 1 + 1) (0) (0)) := R
  clear A B R
  obtain ⟨A_0, A_1, -, -⟩ := HA.out
  go_wp2_with fail
  refine (rmay_any a b _ ha ha' hb hb').mono ?_
  rintro e w1 ⟨rfl, hb1⟩
  clear A_0 A_1
  rw [m1]
  go_upto_region 2 with fail
  refine wp_world ?_
  intro W1 hW1
  have st1 : Below W0.heap.size W0 W1 := by rw [hW1]; exact (by repeat' (first | (with_reducible exact Below.refl _ _) | (with_reducible assumption) | (with_reducible refine bdrewN _ ?_) | (with_reducible refine Below.alloc ?_ ?_ _) | (with_reducible refine Below.setCell ?_ ?_ _) | (with_reducible refine Below.drew ?_) | go_size | (simp; omega)))
  clear hW1 hb1
  have A : Blk2 W1 (w.heap.size) (a) (b) := HA.out.below st1 l_A
  have l_A : w.heap.size < W1.heap.size := Nat.lt_of_lt_of_le l_A st1.size
  have B : Blk2 W1 (w.heap.size + 1) (c) (d) := HB.out.below st1 l_B
  have l_B : w.heap.size + 1 < W1.heap.size := Nat.lt_of_lt_of_le l_B st1.size
  have R : Blk2 W1 (w.heap.size + 1 + 1) (0) (0) := HR.out.below st1 l_R
  have l_R : w.heap.size + 1 + 1 < W1.heap.size := Nat.lt_of_lt_of_le l_R st1.size
  have hBW1 : Below w.heap.size w W1 := hB0.trans (st1.mono hB0.size)
  clear hB0 st1 HA HB HR
  have HA : Hid (Blk2 W1 (w.heap.size) (a) (b)) := A
  have HB : Hid (Blk2 W1 (w.heap.size + 1) (c) (d)) := B
  have HR : Hid (Blk2 W1 (w.heap.size + 1 + 1) (0) (0)) := R
  clear A B R
  obtain ⟨B_0, B_1, -, -⟩ := HB.out
  go_wp2_with fail
  refine (rmay_any c d _ hc hc' hd hd').mono ?_
  rintro e w2 ⟨rfl, hb2⟩
  clear B_0 B_1
  rw [m2]
  go_upto_region 5 with fail
  refine wp_world ?_
  intro W2 hW2
  have st2 : Below W1.heap.size W1 W2 := by rw [hW2]; exact (by repeat' (first | (with_reducible exact Below.refl _ _) | (with_reducible assumption) | (with_reducible refine bdrewN _ ?_) | (with_reducible refine Below.alloc ?_ ?_ _) | (with_reducible refine Below.setCell ?_ ?_ _) | (with_reducible refine Below.drew ?_) | go_size | (simp; omega)))
  clear hW2 hb2
  have A : Blk2 W2 (w.heap.size) (a) (b) := HA.out.below st2 l_A
  have l_A : w.heap.size < W2.heap.size := Nat.lt_of_lt_of_le l_A st2.size
  have B : Blk2 W2 (w.heap.size + 1) (c) (d) := HB.out.below st2 l_B
  have l_B : w.heap.size + 1 < W2.heap.size := Nat.lt_of_lt_of_le l_B st2.size
  have R : Blk2 W2 (w.heap.size + 1 + 1) (0) (0) := HR.out.below st2 l_R
  have l_R : w.heap.size + 1 + 1 < W2.heap.size := Nat.lt_of_lt_of_le l_R st2.size
  have hBW2 : Below w.heap.size w W2 := hBW1.trans (st2.mono hBW1.size)
  clear hBW1 st2 HA HB HR
  have HA : Hid (Blk2 W2 (w.heap.size) (a) (b)) := A
  have HB : Hid (Blk2 W2 (w.heap.size + 1) (c) (d)) := B
  have HR : Hid (Blk2 W2 (w.heap.size + 1 + 1) (0) (0)) := R
  clear A B R
  obtain ⟨A_0, A_1, -, -⟩ := HA.out
  obtain ⟨B_0, B_1, -, -⟩ := HB.out
  obtain ⟨R_0, R_1, -, -⟩ := HR.out
  go_wp2_with fail
  refine (rsum_yes false a b c d _ ha ha' hb hb' hc hc' hd hd' m1 m2).mono ?_
  rintro e w9 ⟨rfl, hb9⟩
  have bR := HR.out.below hb9 l_R
  have hB9 := hBW2.trans (hb9.mono hBW2.size)
  have bRR : Hid (Blk2 w9 (w.heap.size + 1 + 1) 0 0) := bR
  obtain ⟨r0, r1, r2, r3⟩ := bR
  clear A_0 A_1 B_0 B_1 R_0 R_1
  go_wp2
  generalize hW9 : World.setCell _ _ _ = W9
  have b9 := bRR.out.two (rN (a * d + sg false (c * b)) (b * d)) (rD (a * d + sg false (c * b)) (b * d))
  rw [hW9] at b9
  have hB10 : Below w.heap.size w W9 := by rw [← hW9]; exact (by repeat' (first | (with_reducible exact Below.refl _ _) | (with_reducible assumption) | (with_reducible refine bdrewN _ ?_) | (with_reducible refine Below.alloc ?_ ?_ _) | (with_reducible refine Below.setCell ?_ ?_ _) | (with_reducible refine Below.drew ?_) | go_size | (simp; omega)))
  clear hW9
  obtain ⟨z0, z1, -, -⟩ := b9
  refine bodyPost_ret (by simp [results, Tryz.results37, go_sem, z0, z1]; try rfl) rfl ?_
  exact ⟨rfl, hB10⟩

theorem radd_all (a b c d : Int) (w : World) (ha : -9223372036854775808 ≤ a) (ha' : a ≤ 9223372036854775807) (hb : -9223372036854775808 ≤ b) (hb' : b ≤ 9223372036854775807) (hc : -9223372036854775808 ≤ c) (hc' : c ≤ 9223372036854775807) (hd : -9223372036854775808 ≤ d) (hd' : d ≤ 9223372036854775807) :
    Calls Tryz.prog 37 #[.agg #[.int .i64 a, .int .i64 b], .agg #[.int .i64 c, .int .i64 d]] w fun e w' => e = .returned (.tuple #[.agg #[.int .i64 (tN a b c d (a * d + c * b) (b * d)), .int .i64 (tD a b c d (a * d + c * b) (b * d))], .int .i64 (tE a b c d (a * d + c * b) (b * d))]) ∧ Below w.heap.size w w' := by
  cases m1 : mayB a b
  · obtain ⟨e1, e2, e3⟩ := t_no1 (c := c) (d := d) m1 (a * d + c * b) (b * d)
    rw [e1, e2, e3]; exact radd_no1 a b c d w ha ha' hb hb' hc hc' hd hd' m1
  · cases m2 : mayB c d
    · obtain ⟨e1, e2, e3⟩ := t_no2 (a := a) (b := b) m2 (a * d + c * b) (b * d)
      rw [e1, e2, e3]; exact radd_no2 a b c d w ha ha' hb hb' hc hc' hd hd' m1 m2
    · obtain ⟨e1, e2, e3⟩ := t_yes m1 m2 (a * d + c * b) (b * d)
      rw [e1, e2, e3]
      have h := radd_yes a b c d w ha ha' hb hb' hc hc' hd hd' m1 m2
      have e : a * d + sg false (c * b) = a * d + c * b := rfl
      rw [e] at h
      exact h
set_option maxRecDepth 100000 in
set_option maxHeartbeats 1000000 in
theorem rsub_no1 (a b c d : Int) (w : World) (ha : -9223372036854775808 ≤ a) (ha' : a ≤ 9223372036854775807) (hb : -9223372036854775808 ≤ b) (hb' : b ≤ 9223372036854775807) (hc : -9223372036854775808 ≤ c) (hc' : c ≤ 9223372036854775807) (hd : -9223372036854775808 ≤ d) (hd' : d ≤ 9223372036854775807) (m1 : mayB a b = false) :
    Calls Tryz.prog 38 #[.agg #[.int .i64 a, .int .i64 b], .agg #[.int .i64 c, .int .i64 d]] w fun e w' => e = .returned (.tuple #[.agg #[.int .i64 0, .int .i64 0], .int .i64 1]) ∧ Below w.heap.size w w' := by
  go_enter Tryz.func38, Tryz.ntmps38
  go_upto_region 1 with fail
  refine wp_world ?_
  intro W0 hW0
  have A : Blk2 W0 (w.heap.size) (a) (b) := by rw [hW0]; constructor <;> simp (maxDischargeDepth := 12) [go_sem]
  have l_A : w.heap.size < W0.heap.size := by rw [hW0]; first | (simp; done) | (simp; omega)
  have B : Blk2 W0 (w.heap.size + 1) (c) (d) := by rw [hW0]; constructor <;> simp (maxDischargeDepth := 12) [go_sem]
  have l_B : w.heap.size + 1 < W0.heap.size := by rw [hW0]; first | (simp; done) | (simp; omega)
  have R : Blk2 W0 (w.heap.size + 1 + 1) (0) (0) := by rw [hW0]; constructor <;> simp (maxDischargeDepth := 12) [go_sem]
  have l_R : w.heap.size + 1 + 1 < W0.heap.size := by rw [hW0]; first | (simp; done) | (simp; omega)
  have hB0 : Below w.heap.size w W0 := by rw [hW0]; exact (by repeat' (first | (with_reducible exact Below.refl _ _) | (with_reducible assumption) | (with_reducible refine bdrewN _ ?_) | (with_reducible refine Below.alloc ?_ ?_ _) | (with_reducible refine Below.setCell ?_ ?_ _) | (with_reducible refine Below.drew ?_) | go_size | (simp; omega)))
  clear hW0
  have HA : Hid (Blk2 W0 (w.heap.size) (a) (b)) := A
  have HB : Hid (Blk2 W0 (w.heap.size + 1) (c) (d)) := B
  have HR : Hid (Blk2 W0 (w.heap.size + 1 + 1) (0) (0)) := R
  clear A B R
  obtain ⟨A_0, A_1, -, -⟩ := HA.out
  go_wp2_with fail
  refine (rmay_any a b _ ha ha' hb hb').mono ?_
  rintro e w1 ⟨rfl, hb1⟩
  rw [m1]
  have hs1 := hb1.size
  have b1 := HB.out.below hb1 l_B
  obtain ⟨x0, x1, -, -⟩ := b1
  go_wp2_with fail
  refine (rmay_any c d _ hc hc' hd hd').mono ?_
  rintro e w2 ⟨rfl, hb2⟩
  have hB2 : Below w.heap.size w w2 := (hB0.trans (hb1.mono hB0.size)).trans (hb2.mono (by have := hB0.size; omega))
  have bR := (HR.out.below hb1 l_R).below hb2 (by omega)
  have bB := (HB.out.below hb1 l_B).below hb2 (by omega)
  have bRR : Hid (Blk2 w2 (w.heap.size + 1 + 1) 0 0) := bR
  obtain ⟨r0, r1, r2, r3⟩ := bR
  obtain ⟨y0, y1, -, -⟩ := bB
  clear x0 x1 A_0 A_1 hb1 hb2 hs1
  go_wp2
  generalize hW9 : World.setCell _ _ _ = W9
  have b9 := bRR.out.two 0 0
  rw [hW9] at b9
  have hB9 : Below w.heap.size w W9 := by rw [← hW9]; exact (by repeat' (first | (with_reducible exact Below.refl _ _) | (with_reducible assumption) | (with_reducible refine bdrewN _ ?_) | (with_reducible refine Below.alloc ?_ ?_ _) | (with_reducible refine Below.setCell ?_ ?_ _) | (with_reducible refine Below.drew ?_) | go_size | (simp; omega)))
  clear hW9
  obtain ⟨z0, z1, -, -⟩ := b9
  refine bodyPost_ret (by simp [results, Tryz.results38, go_sem, z0, z1]; try rfl) rfl ?_
  exact ⟨rfl, hB9⟩

set_option maxRecDepth 100000 in
set_option maxHeartbeats 1000000 in
theorem rsub_no2 (a b c d : Int) (w : World) (ha : -9223372036854775808 ≤ a) (ha' : a ≤ 9223372036854775807) (hb : -9223372036854775808 ≤ b) (hb' : b ≤ 9223372036854775807) (hc : -9223372036854775808 ≤ c) (hc' : c ≤ 9223372036854775807) (hd : -9223372036854775808 ≤ d) (hd' : d ≤ 9223372036854775807) (m1 : mayB a b = true) (m2 : mayB c d = false) :
    Calls Tryz.prog 38 #[.agg #[.int .i64 a, .int .i64 b], .agg #[.int .i64 c, .int .i64 d]] w fun e w' => e = .returned (.tuple #[.agg #[.int .i64 0, .int .i64 0], .int .i64 1]) ∧ Below w.heap.size w w' := by
  go_enter Tryz.func38, Tryz.ntmps38
  go_upto_region 1 with fail
  refine wp_world ?_
  intro W0 hW0
  have A : Blk2 W0 (w.heap.size) (a) (b) := by rw [hW0]; constructor <;> simp (maxDischargeDepth := 12) [go_sem]
  have l_A : w.heap.size < W0.heap.size := by rw [hW0]; first | (simp; done) | (simp; omega)
  have B : Blk2 W0 (w.heap.size + 1) (c) (d) := by rw [hW0]; constructor <;> simp (maxDischargeDepth := 12) [go_sem]
  have l_B : w.heap.size + 1 < W0.heap.size := by rw [hW0]; first | (simp; done) | (simp; omega)
  have R : Blk2 W0 (w.heap.size + 1 + 1) (0) (0) := by rw [hW0]; constructor <;> simp (maxDischargeDepth := 12) [go_sem]
  have l_R : w.heap.size + 1 + 1 < W0.heap.size := by rw [hW0]; first | (simp; done) | (simp; omega)
  have hB0 : Below w.heap.size w W0 := by rw [hW0]; exact (by repeat' (first | (with_reducible exact Below.refl _ _) | (with_reducible assumption) | (with_reducible refine bdrewN _ ?_) | (with_reducible refine Below.alloc ?_ ?_ _) | (with_reducible refine Below.setCell ?_ ?_ _) | (with_reducible refine Below.drew ?_) | go_size | (simp; omega)))
  clear hW0
  have HA : Hid (Blk2 W0 (w.heap.size) (a) (b)) := A
  have HB : Hid (Blk2 W0 (w.heap.size + 1) (c) (d)) := B
  have HR : Hid (Blk2 W0 (w.heap.size + 1 + 1) (0) (0)) := R
  clear A B R
  obtain ⟨A_0, A_1, -, -⟩ := HA.out
  go_wp2_with fail
  refine (rmay_any a b _ ha ha' hb hb').mono ?_
  rintro e w1 ⟨rfl, hb1⟩
  rw [m1]
  have hs1 := hb1.size
  have b1 := HB.out.below hb1 l_B
  obtain ⟨x0, x1, -, -⟩ := b1
  go_wp2_with fail
  refine (rmay_any c d _ hc hc' hd hd').mono ?_
  rintro e w2 ⟨rfl, hb2⟩
  rw [m2]
  have hB2 : Below w.heap.size w w2 := (hB0.trans (hb1.mono hB0.size)).trans (hb2.mono (by have := hB0.size; omega))
  have bR := (HR.out.below hb1 l_R).below hb2 (by omega)
  have bB := (HB.out.below hb1 l_B).below hb2 (by omega)
  have bRR : Hid (Blk2 w2 (w.heap.size + 1 + 1) 0 0) := bR
  obtain ⟨r0, r1, r2, r3⟩ := bR
  obtain ⟨y0, y1, -, -⟩ := bB
  clear x0 x1 A_0 A_1 hb1 hb2 hs1
  go_wp2
  generalize hW9 : World.setCell _ _ _ = W9
  have b9 := bRR.out.two 0 0
  rw [hW9] at b9
  have hB9 : Below w.heap.size w W9 := by rw [← hW9]; exact (by repeat' (first | (with_reducible exact Below.refl _ _) | (with_reducible assumption) | (with_reducible refine bdrewN _ ?_) | (with_reducible refine Below.alloc ?_ ?_ _) | (with_reducible refine Below.setCell ?_ ?_ _) | (with_reducible refine Below.drew ?_) | go_size | (simp; omega)))
  clear hW9
  obtain ⟨z0, z1, -, -⟩ := b9
  refine bodyPost_ret (by simp [results, Tryz.results38, go_sem, z0, z1]; try rfl) rfl ?_
  exact ⟨rfl, hB9⟩

set_option maxRecDepth 100000 in
set_option maxHeartbeats 1000000 in
theorem rsub_yes (a b c d : Int) (w : World) (ha : -9223372036854775808 ≤ a) (ha' : a ≤ 9223372036854775807) (hb : -9223372036854775808 ≤ b) (hb' : b ≤ 9223372036854775807) (hc : -9223372036854775808 ≤ c) (hc' : c ≤ 9223372036854775807) (hd : -9223372036854775808 ≤ d) (hd' : d ≤ 9223372036854775807) (m1 : mayB a b = true) (m2 : mayB c d = true) :
    Calls Tryz.prog 38 #[.agg #[.int .i64 a, .int .i64 b], .agg #[.int .i64 c, .int .i64 d]] w fun e w' => e = .returned (.tuple #[.agg #[.int .i64 (rN (a * d + sg true (c * b)) (b * d)), .int .i64 (rD (a * d + sg true (c * b)) (b * d))], .int .i64 (rE (a * d + sg true (c * b)) (b * d))]) ∧ Below w.heap.size w w' := by
  go_enter Tryz.func38, Tryz.ntmps38
  go_upto_region 1 with fail
  refine wp_world ?_
  intro W0 hW0
  have A : Blk2 W0 (w.heap.size) (a) (b) := by rw [hW0]; constructor <;> simp (maxDischargeDepth := 12) [go_sem]
  have l_A : w.heap.size < W0.heap.size := by rw [hW0]; first | (simp; done) | (simp; omega)
  have B : Blk2 W0 (w.heap.size + 1) (c) (d) := by rw [hW0]; constructor <;> simp (maxDischargeDepth := 12) [go_sem]
  have l_B : w.heap.size + 1 < W0.heap.size := by rw [hW0]; first | (simp; done) | (simp; omega)
  have R : Blk2 W0 (w.heap.size + 1 + 1) (0) (0) := by rw [hW0]; constructor <;> simp (maxDischargeDepth := 12) [go_sem]
  have l_R : w.heap.size + 1 + 1 < W0.heap.size := by rw [hW0]; first | (simp; done) | (simp; omega)
  have hB0 : Below w.heap.size w W0 := by rw [hW0]; exact (by repeat' (first | (with_reducible exact Below.refl _ _) | (with_reducible assumption) | (with_reducible refine bdrewN _ ?_) | (with_reducible refine Below.alloc ?_ ?_ _) | (with_reducible refine Below.setCell ?_ ?_ _) | (with_reducible refine Below.drew ?_) | go_size | (simp; omega)))
  clear hW0
  have HA : Hid (Blk2 W0 (w.heap.size) (a) (b)) := A
  have HB : Hid (Blk2 W0 (w.heap.size + 1) (c) (d)) := B
  have HR : Hid (Blk2 W0 (w.heap.size + 1 + 1) (0) (0)) := R
  clear A B R
  obtain ⟨A_0, A_1, -, -⟩ := HA.out
  go_wp2_with fail
  refine (rmay_any a b _ ha ha' hb hb').mono ?_
  rintro e w1 ⟨rfl, hb1⟩
  clear A_0 A_1
  rw [m1]
  go_upto_region 2 with fail
  refine wp_world ?_
  intro W1 hW1
  have st1 : Below W0.heap.size W0 W1 := by rw [hW1]; exact (by repeat' (first | (with_reducible exact Below.refl _ _) | (with_reducible assumption) | (with_reducible refine bdrewN _ ?_) | (with_reducible refine Below.alloc ?_ ?_ _) | (with_reducible refine Below.setCell ?_ ?_ _) | (with_reducible refine Below.drew ?_) | go_size | (simp; omega)))
  clear hW1 hb1
  have A : Blk2 W1 (w.heap.size) (a) (b) := HA.out.below st1 l_A
  have l_A : w.heap.size < W1.heap.size := Nat.lt_of_lt_of_le l_A st1.size
  have B : Blk2 W1 (w.heap.size + 1) (c) (d) := HB.out.below st1 l_B
  have l_B : w.heap.size + 1 < W1.heap.size := Nat.lt_of_lt_of_le l_B st1.size
  have R : Blk2 W1 (w.heap.size + 1 + 1) (0) (0) := HR.out.below st1 l_R
  have l_R : w.heap.size + 1 + 1 < W1.heap.size := Nat.lt_of_lt_of_le l_R st1.size
  have hBW1 : Below w.heap.size w W1 := hB0.trans (st1.mono hB0.size)
  clear hB0 st1 HA HB HR
  have HA : Hid (Blk2 W1 (w.heap.size) (a) (b)) := A
  have HB : Hid (Blk2 W1 (w.heap.size + 1) (c) (d)) := B
  have HR : Hid (Blk2 W1 (w.heap.size + 1 + 1) (0) (0)) := R
  clear A B R
  obtain ⟨B_0, B_1, -, -⟩ := HB.out
  go_wp2_with fail
  refine (rmay_any c d _ hc hc' hd hd').mono ?_
  rintro e w2 ⟨rfl, hb2⟩
  clear B_0 B_1
  rw [m2]
  go_upto_region 5 with fail
  refine wp_world ?_
  intro W2 hW2
  have st2 : Below W1.heap.size W1 W2 := by rw [hW2]; exact (by repeat' (first | (with_reducible exact Below.refl _ _) | (with_reducible assumption) | (with_reducible refine bdrewN _ ?_) | (with_reducible refine Below.alloc ?_ ?_ _) | (with_reducible refine Below.setCell ?_ ?_ _) | (with_reducible refine Below.drew ?_) | go_size | (simp; omega)))
  clear hW2 hb2
  have A : Blk2 W2 (w.heap.size) (a) (b) := HA.out.below st2 l_A
  have l_A : w.heap.size < W2.heap.size := Nat.lt_of_lt_of_le l_A st2.size
  have B : Blk2 W2 (w.heap.size + 1) (c) (d) := HB.out.below st2 l_B
  have l_B : w.heap.size + 1 < W2.heap.size := Nat.lt_of_lt_of_le l_B st2.size
  have R : Blk2 W2 (w.heap.size + 1 + 1) (0) (0) := HR.out.below st2 l_R
  have l_R : w.heap.size + 1 + 1 < W2.heap.size := Nat.lt_of_lt_of_le l_R st2.size
  have hBW2 : Below w.heap.size w W2 := hBW1.trans (st2.mono hBW1.size)
  clear hBW1 st2 HA HB HR
  have HA : Hid (Blk2 W2 (w.heap.size) (a) (b)) := A
  have HB : Hid (Blk2 W2 (w.heap.size + 1) (c) (d)) := B
  have HR : Hid (Blk2 W2 (w.heap.size + 1 + 1) (0) (0)) := R
  clear A B R
  obtain ⟨A_0, A_1, -, -⟩ := HA.out
  obtain ⟨B_0, B_1, -, -⟩ := HB.out
  obtain ⟨R_0, R_1, -, -⟩ := HR.out
  go_wp2_with fail
  refine (rsum_yes true a b c d _ ha ha' hb hb' hc hc' hd hd' m1 m2).mono ?_
  rintro e w9 ⟨rfl, hb9⟩
  have bR := HR.out.below hb9 l_R
  have hB9 := hBW2.trans (hb9.mono hBW2.size)
  have bRR : Hid (Blk2 w9 (w.heap.size + 1 + 1) 0 0) := bR
  obtain ⟨r0, r1, r2, r3⟩ := bR
  clear A_0 A_1 B_0 B_1 R_0 R_1
  go_wp2
  generalize hW9 : World.setCell _ _ _ = W9
  have b9 := bRR.out.two (rN (a * d + sg true (c * b)) (b * d)) (rD (a * d + sg true (c * b)) (b * d))
  rw [hW9] at b9
  have hB10 : Below w.heap.size w W9 := by rw [← hW9]; exact (by repeat' (first | (with_reducible exact Below.refl _ _) | (with_reducible assumption) | (with_reducible refine bdrewN _ ?_) | (with_reducible refine Below.alloc ?_ ?_ _) | (with_reducible refine Below.setCell ?_ ?_ _) | (with_reducible refine Below.drew ?_) | go_size | (simp; omega)))
  clear hW9
  obtain ⟨z0, z1, -, -⟩ := b9
  refine bodyPost_ret (by simp [results, Tryz.results38, go_sem, z0, z1]; try rfl) rfl ?_
  exact ⟨rfl, hB10⟩

theorem rsub_all (a b c d : Int) (w : World) (ha : -9223372036854775808 ≤ a) (ha' : a ≤ 9223372036854775807) (hb : -9223372036854775808 ≤ b) (hb' : b ≤ 9223372036854775807) (hc : -9223372036854775808 ≤ c) (hc' : c ≤ 9223372036854775807) (hd : -9223372036854775808 ≤ d) (hd' : d ≤ 9223372036854775807) :
    Calls Tryz.prog 38 #[.agg #[.int .i64 a, .int .i64 b], .agg #[.int .i64 c, .int .i64 d]] w fun e w' => e = .returned (.tuple #[.agg #[.int .i64 (tN a b c d (a * d - c * b) (b * d)), .int .i64 (tD a b c d (a * d - c * b) (b * d))], .int .i64 (tE a b c d (a * d - c * b) (b * d))]) ∧ Below w.heap.size w w' := by
  cases m1 : mayB a b
  · obtain ⟨e1, e2, e3⟩ := t_no1 (c := c) (d := d) m1 (a * d - c * b) (b * d)
    rw [e1, e2, e3]; exact rsub_no1 a b c d w ha ha' hb hb' hc hc' hd hd' m1
  · cases m2 : mayB c d
    · obtain ⟨e1, e2, e3⟩ := t_no2 (a := a) (b := b) m2 (a * d - c * b) (b * d)
      rw [e1, e2, e3]; exact rsub_no2 a b c d w ha ha' hb hb' hc hc' hd hd' m1 m2
    · obtain ⟨e1, e2, e3⟩ := t_yes m1 m2 (a * d - c * b) (b * d)
      rw [e1, e2, e3]
      have h := rsub_yes a b c d w ha ha' hb hb' hc hc' hd hd' m1 m2
      have e : a * d + sg true (c * b) = a * d - c * b := Int.sub_eq_add_neg.symm
      rw [e] at h
      exact h

end Go.Proofs.YtedoahibceeklaaGreatDoor
