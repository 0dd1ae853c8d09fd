/- The document's sum. -/
import Derived.Test.YtedoahibceeklaaGreatDoorRef1
import Derived.Test.YtedoahibceeklaaGreatDoorKept
import Derived.Test.YtedoahibceeklaaGreatDoorPub
import Derived.Deep.DeepCutAuto

namespace Go.Proofs.YtedoahibceeklaaGreatDoor
open Go.RowKit

set_option maxRecDepth 100000 in
set_option maxHeartbeats 8000000 in
theorem rsum_rawA (p q s minus : Bool) (a b c d n : Int) (w : World) (ha : -9223372036854775808 ≤ a) (ha' : a ≤ 9223372036854775807) (hb : -9223372036854775808 ≤ b) (hb' : b ≤ 9223372036854775807) (hc : -9223372036854775808 ≤ c) (hc' : c ≤ 9223372036854775807) (hd : -9223372036854775808 ≤ d) (hd' : d ≤ 9223372036854775807) (pb : 0 < b) (pd : 0 < d) (za : 0 ≤ sz a) (za' : sz a ≤ 9223372036854775808) (zc : 0 ≤ sz c) (zc' : sz c ≤ 9223372036854775808)
    (hX : 0 ≤ sz a * d) (hX' : sz a * d ≤ 85070591730234615865843651857942052864) (hY : 0 ≤ sz c * b) (hY' : sz c * b ≤ 85070591730234615865843651857942052864)
    (eqp : Hid (decide (a < 0) = p)) (eqq : Hid ((!(decide (c < 0) == minus)) = q))
    (HM : Hid (∀ W : World, Calls Tryz.prog 54 #[.bool s, .agg #[.int .u64 (g0 (n)), .int .u64 (g1 (n)), .int .u64 (g2 (n)), .int .u64 (g3 (n))], .agg #[.int .u64 (g0 (b * d)), .int .u64 (g1 (b * d)), .int .u64 (g2 (b * d)), .int .u64 (g3 (b * d))]] W fun e w' => e = .returned (.tuple #[.agg #[.int .i64 (rN (sg s (n)) (b * d)), .int .i64 (rD (sg s (n)) (b * d))], .int .i64 (rE (sg s (n)) (b * d))]) ∧ Below W.heap.size W w'))
    (hcase : (p = true ∧ q = true ∧ n = (sz a * d + sz c * b) ∧ s = true ∧ ¬ (g0 ((sz a * d + sz c * b)) = 0 ∧ g1 ((sz a * d + sz c * b)) = 0 ∧ g2 ((sz a * d + sz c * b)) = 0 ∧ g3 ((sz a * d + sz c * b)) = 0)) ∨ (p = true ∧ q = true ∧ n = (sz a * d + sz c * b) ∧ s = false ∧ g0 ((sz a * d + sz c * b)) = 0 ∧ g1 ((sz a * d + sz c * b)) = 0 ∧ g2 ((sz a * d + sz c * b)) = 0 ∧ g3 ((sz a * d + sz c * b)) = 0) ∨ (p = false ∧ q = false ∧ n = (sz a * d + sz c * b) ∧ s = false)) :
    Calls Tryz.prog 53 #[.agg #[.int .i64 a, .int .i64 b], .agg #[.int .i64 c, .int .i64 d], .bool minus] w fun e w' => e = .returned (.tuple #[.agg #[.int .i64 (rN (sg s (n)) (b * d)), .int .i64 (rD (sg s (n)) (b * d))], .int .i64 (rE (sg s (n)) (b * d))]) ∧ Below w.heap.size w w' := by
  have ub : IntKind.u64.wrap b = b := by rw [IntKind.wrap_u64]; omega
  have ud : IntKind.u64.wrap d = d := by rw [IntKind.wrap_u64]; omega
  go_enter Tryz.func53, Tryz.ntmps53
  go_upto_region 1 with fail
  refine wp_world ?_
  intro W0 hW0
  have A : Blk2 W0 (w.heap.size) (a) (b) := by rw [hW0]; constructor <;> simp (maxDischargeDepth := 12) [go_sem]
  have l_A : w.heap.size < W0.heap.size := by rw [hW0]; first | (simp; done) | (simp; omega)
  have B : Blk2 W0 (w.heap.size + 1) (c) (d) := by rw [hW0]; constructor <;> simp (maxDischargeDepth := 12) [go_sem]
  have l_B : w.heap.size + 1 < W0.heap.size := by rw [hW0]; first | (simp; done) | (simp; omega)
  have R : Blk2 W0 (w.heap.size + 1 + 1) (0) (0) := by rw [hW0]; constructor <;> simp (maxDischargeDepth := 12) [go_sem]
  have l_R : w.heap.size + 1 + 1 < W0.heap.size := by rw [hW0]; first | (simp; done) | (simp; omega)
  have hB0 : Below w.heap.size w W0 := by rw [hW0]; exact (by repeat' (first | (with_reducible exact Below.refl _ _) | (with_reducible assumption) | (with_reducible refine bdrewN _ ?_) | (with_reducible refine Below.alloc ?_ ?_ _) | (with_reducible refine Below.setCell ?_ ?_ _) | (with_reducible refine Below.drew ?_) | go_size | (simp; omega)))
  clear hW0
  have HA : Hid (Blk2 W0 (w.heap.size) (a) (b)) := A
  have HB : Hid (Blk2 W0 (w.heap.size + 1) (c) (d)) := B
  have HR : Hid (Blk2 W0 (w.heap.size + 1 + 1) (0) (0)) := R
  clear A B R
  obtain ⟨A_0, A_1, -, -⟩ := HA.out
  obtain ⟨B_0, B_1, -, -⟩ := HB.out
  go_cut [8] (fun p wx => ∃ bn : Nat, p = .pointer (some ⟨bn, 0, none⟩) ∧ W0.heap.size ≤ bn ∧ bn < wx.heap.size ∧ Blk wx bn (g0 (sz a * d)) (g1 (sz a * d)) (g2 (sz a * d)) (g3 (sz a * d)) ∧ Below W0.heap.size W0 wx)
  case first =>
    go_region_held3 (fun w' => w'.cell? ⟨w.heap.size, 0, none⟩ = some (.int .i64 (a)) ∧ w'.cell? ⟨w.heap.size, 1, none⟩ = some (.int .i64 (b)) ∧ w'.cell? ⟨w.heap.size + 1, 0, none⟩ = some (.int .i64 (c)) ∧ w'.cell? ⟨w.heap.size + 1, 1, none⟩ = some (.int .i64 (d))) (exact ⟨bcl (n := W0.heap.size) (by go_grown) A_0 (by simp; try omega), bcl (n := W0.heap.size) (by go_grown) A_1 (by simp; try omega), bcl (n := W0.heap.size) (by go_grown) B_0 (by simp; try omega), bcl (n := W0.heap.size) (by go_grown) B_1 (by simp; try omega)⟩)
      (first
        | (go_at_call 47; refine (rsize_any _ _ (by omega) (by omega)).mono ?_; rintro e w' ⟨rfl, rfl⟩)
        | (go_at_call 46; refine (rtimes_any _ _ _ (by omega) (by omega) (by omega) (by omega)).mono ?_; rintro e w1 ⟨rfl, hb1⟩; obtain ⟨hc1, hf1, hz1, hB1, hn1, hm1⟩ := bg (n := W0.heap.size) (W0 := W0) (by go_grown) (by go_size) hb1; have z_A := hm1 (w.heap.size) l_A; have z_B := hm1 (w.heap.size + 1) l_B; clear hm1))
    all_goals
      go_wp2
      go_meet
      case rel =>
        refine ⟨_, rfl, ?_, ?_, ?_, ?_⟩
        · first | go_size | (simp; omega)
        · first | omega | (simp; done) | (simp; omega) | simp (maxDischargeDepth := 8) [go_sem, *]
        · constructor <;> simp (maxDischargeDepth := 8) [go_sem, *]
        · exact (by repeat' (first | (with_reducible exact Below.refl _ _) | (with_reducible assumption) | (with_reducible refine bdrewN _ ?_) | (with_reducible refine Below.alloc ?_ ?_ _) | (with_reducible refine Below.setCell ?_ ?_ _) | (with_reducible refine Below.drew ?_) | go_size | (simp; omega)))
  case rest =>
    obtain ⟨bX, rfl, n_X, l_X, X, st1⟩ := hcut
    clear A_0 A_1 B_0 B_1
    obtain ⟨V1, eV1⟩ : ∃ V1 : World, V1 = wc := ⟨_, rfl⟩
    rw [← eV1] at l_X X st1 ⊢
    clear eV1 wc
    have A : Blk2 V1 (w.heap.size) (a) (b) := HA.out.below st1 l_A
    have l_A : w.heap.size < V1.heap.size := Nat.lt_of_lt_of_le l_A st1.size
    have B : Blk2 V1 (w.heap.size + 1) (c) (d) := HB.out.below st1 l_B
    have l_B : w.heap.size + 1 < V1.heap.size := Nat.lt_of_lt_of_le l_B st1.size
    have R : Blk2 V1 (w.heap.size + 1 + 1) (0) (0) := HR.out.below st1 l_R
    have l_R : w.heap.size + 1 + 1 < V1.heap.size := Nat.lt_of_lt_of_le l_R st1.size
    have hBV1 : Below w.heap.size w V1 := hB0.trans (st1.mono hB0.size)
    clear hB0 st1 HA HB HR
    go_upto_region 2 with fail
    have HA : Hid (Blk2 V1 (w.heap.size) (a) (b)) := A
    have HB : Hid (Blk2 V1 (w.heap.size + 1) (c) (d)) := B
    have HR : Hid (Blk2 V1 (w.heap.size + 1 + 1) (0) (0)) := R
    have HX : Hid (Blk V1 (bX) (g0 (sz a * d)) (g1 (sz a * d)) (g2 (sz a * d)) (g3 (sz a * d))) := X
    clear A B R X
    obtain ⟨A_0, A_1, -, -⟩ := HA.out
    obtain ⟨B_0, B_1, -, -⟩ := HB.out
    go_cut [9] (fun p wx => ∃ bn : Nat, p = .pointer (some ⟨bn, 0, none⟩) ∧ V1.heap.size ≤ bn ∧ bn < wx.heap.size ∧ Blk wx bn (g0 (sz c * b)) (g1 (sz c * b)) (g2 (sz c * b)) (g3 (sz c * b)) ∧ Below V1.heap.size V1 wx)
    case first =>
      go_region_held3 (fun w' => w'.cell? ⟨w.heap.size, 0, none⟩ = some (.int .i64 (a)) ∧ w'.cell? ⟨w.heap.size, 1, none⟩ = some (.int .i64 (b)) ∧ w'.cell? ⟨w.heap.size + 1, 0, none⟩ = some (.int .i64 (c)) ∧ w'.cell? ⟨w.heap.size + 1, 1, none⟩ = some (.int .i64 (d))) (exact ⟨bcl (n := V1.heap.size) (by go_grown) A_0 (by simp; try omega), bcl (n := V1.heap.size) (by go_grown) A_1 (by simp; try omega), bcl (n := V1.heap.size) (by go_grown) B_0 (by simp; try omega), bcl (n := V1.heap.size) (by go_grown) B_1 (by simp; try omega)⟩)
        (first
          | (go_at_call 47; refine (rsize_any _ _ (by omega) (by omega)).mono ?_; rintro e w' ⟨rfl, rfl⟩)
          | (go_at_call 46; refine (rtimes_any _ _ _ (by omega) (by omega) (by omega) (by omega)).mono ?_; rintro e w1 ⟨rfl, hb1⟩; obtain ⟨hc1, hf1, hz1, hB1, hn1, hm1⟩ := bg (n := V1.heap.size) (W0 := V1) (by go_grown) (by go_size) hb1; have z_A := hm1 (w.heap.size) l_A; have z_B := hm1 (w.heap.size + 1) l_B; clear hm1))
      all_goals
        go_wp2
        go_meet
        case rel =>
          refine ⟨_, rfl, ?_, ?_, ?_, ?_⟩
          · first | go_size | (simp; omega)
          · first | omega | (simp; done) | (simp; omega) | simp (maxDischargeDepth := 8) [go_sem, *]
          · constructor <;> simp (maxDischargeDepth := 8) [go_sem, *]
          · exact (by repeat' (first | (with_reducible exact Below.refl _ _) | (with_reducible assumption) | (with_reducible refine bdrewN _ ?_) | (with_reducible refine Below.alloc ?_ ?_ _) | (with_reducible refine Below.setCell ?_ ?_ _) | (with_reducible refine Below.drew ?_) | go_size | (simp; omega)))
    case rest =>
      obtain ⟨bY, rfl, n_Y, l_Y, Y, st2⟩ := hcut
      clear A_0 A_1 B_0 B_1
      obtain ⟨V2, eV2⟩ : ∃ V2 : World, V2 = wc := ⟨_, rfl⟩
      rw [← eV2] at l_Y Y st2 ⊢
      clear eV2 wc
      have A : Blk2 V2 (w.heap.size) (a) (b) := HA.out.below st2 l_A
      have l_A : w.heap.size < V2.heap.size := Nat.lt_of_lt_of_le l_A st2.size
      have B : Blk2 V2 (w.heap.size + 1) (c) (d) := HB.out.below st2 l_B
      have l_B : w.heap.size + 1 < V2.heap.size := Nat.lt_of_lt_of_le l_B st2.size
      have R : Blk2 V2 (w.heap.size + 1 + 1) (0) (0) := HR.out.below st2 l_R
      have l_R : w.heap.size + 1 + 1 < V2.heap.size := Nat.lt_of_lt_of_le l_R st2.size
      have X : Blk V2 (bX) (g0 (sz a * d)) (g1 (sz a * d)) (g2 (sz a * d)) (g3 (sz a * d)) := HX.out.below st2 l_X
      have l_X : bX < V2.heap.size := Nat.lt_of_lt_of_le l_X st2.size
      have hBV2 : Below w.heap.size w V2 := hBV1.trans (st2.mono hBV1.size)
      clear hBV1 st2 HA HB HR HX
      go_upto_region 3 with fail
      have HA : Hid (Blk2 V2 (w.heap.size) (a) (b)) := A
      have HB : Hid (Blk2 V2 (w.heap.size + 1) (c) (d)) := B
      have HR : Hid (Blk2 V2 (w.heap.size + 1 + 1) (0) (0)) := R
      have HX : Hid (Blk V2 (bX) (g0 (sz a * d)) (g1 (sz a * d)) (g2 (sz a * d)) (g3 (sz a * d))) := X
      have HY : Hid (Blk V2 (bY) (g0 (sz c * b)) (g1 (sz c * b)) (g2 (sz c * b)) (g3 (sz c * b))) := Y
      clear A B R X Y
      obtain ⟨A_0, A_1, -, -⟩ := HA.out
      obtain ⟨B_0, B_1, -, -⟩ := HB.out
      go_wp2_with fail
      refine (rtimes_any b d _ (by omega) (by omega) (by omega) (by omega)).mono ?_
      rintro e w3 ⟨rfl, hb3⟩
      have hz3 := hb3.size
      clear A_0 A_1 B_0 B_1
      go_upto_region 4 with fail
      refine wp_world ?_
      intro W3 hW3
      have st3 : Below V2.heap.size V2 W3 := by rw [hW3]; exact (by repeat' (first | (with_reducible exact Below.refl _ _) | (with_reducible assumption) | (with_reducible refine bdrewN _ ?_) | (with_reducible refine Below.alloc ?_ ?_ _) | (with_reducible refine Below.setCell ?_ ?_ _) | (with_reducible refine Below.drew ?_) | go_size | (simp; omega)))
      have D : Blk W3 (w3.heap.size) (g0 (b * d)) (g1 (b * d)) (g2 (b * d)) (g3 (b * d)) := by rw [hW3]; constructor <;> simp (maxDischargeDepth := 12) [go_sem]
      have l_D : w3.heap.size < W3.heap.size := by rw [hW3]; simp
      clear hW3
      have A : Blk2 W3 (w.heap.size) (a) (b) := HA.out.below st3 l_A
      have l_A : w.heap.size < W3.heap.size := Nat.lt_of_lt_of_le l_A st3.size
      have B : Blk2 W3 (w.heap.size + 1) (c) (d) := HB.out.below st3 l_B
      have l_B : w.heap.size + 1 < W3.heap.size := Nat.lt_of_lt_of_le l_B st3.size
      have R : Blk2 W3 (w.heap.size + 1 + 1) (0) (0) := HR.out.below st3 l_R
      have l_R : w.heap.size + 1 + 1 < W3.heap.size := Nat.lt_of_lt_of_le l_R st3.size
      have X : Blk W3 (bX) (g0 (sz a * d)) (g1 (sz a * d)) (g2 (sz a * d)) (g3 (sz a * d)) := HX.out.below st3 l_X
      have l_X : bX < W3.heap.size := Nat.lt_of_lt_of_le l_X st3.size
      have Y : Blk W3 (bY) (g0 (sz c * b)) (g1 (sz c * b)) (g2 (sz c * b)) (g3 (sz c * b)) := HY.out.below st3 l_Y
      have l_Y : bY < W3.heap.size := Nat.lt_of_lt_of_le l_Y st3.size
      have hBW3 : Below w.heap.size w W3 := hBV2.trans (st3.mono hBV2.size)
      clear hBV2 st3 HA HB HR HX HY
      have HA : Hid (Blk2 W3 (w.heap.size) (a) (b)) := A
      have HB : Hid (Blk2 W3 (w.heap.size + 1) (c) (d)) := B
      have HR : Hid (Blk2 W3 (w.heap.size + 1 + 1) (0) (0)) := R
      have HX : Hid (Blk W3 (bX) (g0 (sz a * d)) (g1 (sz a * d)) (g2 (sz a * d)) (g3 (sz a * d))) := X
      have HY : Hid (Blk W3 (bY) (g0 (sz c * b)) (g1 (sz c * b)) (g2 (sz c * b)) (g3 (sz c * b))) := Y
      have HD : Hid (Blk W3 (w3.heap.size) (g0 (b * d)) (g1 (b * d)) (g2 (b * d)) (g3 (b * d))) := D
      clear A B R X Y D
      obtain ⟨A_0, A_1, -, -⟩ := HA.out
      obtain ⟨B_0, B_1, -, -⟩ := HB.out
      go_upto_region 6 with fail
      rw [eqp.out, eqq.out]
      clear eqp eqq A_0 A_1 B_0 B_1
      have A := HA.out
      have B := HB.out
      have R := HR.out
      have X := HX.out
      have Y := HY.out
      have D := HD.out
      clear HA HB HR HX HY HD
      rcases hcase with ⟨rfl, rfl, rfl, rfl, hn⟩ | ⟨rfl, rfl, rfl, rfl, n0, n1, n2, n3⟩ | ⟨rfl, rfl, rfl, rfl⟩
      · have HA : Hid (Blk2 W3 (w.heap.size) (a) (b)) := A
        have HB : Hid (Blk2 W3 (w.heap.size + 1) (c) (d)) := B
        have HR : Hid (Blk2 W3 (w.heap.size + 1 + 1) (0) (0)) := R
        have HX : Hid (Blk W3 (bX) (g0 (sz a * d)) (g1 (sz a * d)) (g2 (sz a * d)) (g3 (sz a * d))) := X
        have HY : Hid (Blk W3 (bY) (g0 (sz c * b)) (g1 (sz c * b)) (g2 (sz c * b)) (g3 (sz c * b))) := Y
        have HD : Hid (Blk W3 (w3.heap.size) (g0 (b * d)) (g1 (b * d)) (g2 (b * d)) (g3 (b * d))) := D
        clear A B R X Y D
        obtain ⟨X_0, X_1, X_2, X_3, -, -, -, -⟩ := HX.out
        obtain ⟨Y_0, Y_1, Y_2, Y_3, -, -, -, -⟩ := HY.out
        go_wp2_with fail
        refine (rplus_any (sz a * d) (sz c * b) _ hX hY (by omega)).mono ?_
        rintro e w4 ⟨rfl, hb4⟩
        have hz4 := hb4.size
        clear X_0 X_1 X_2 X_3 Y_0 Y_1 Y_2 Y_3
        go_upto_region 8 with fail
        refine wp_world ?_
        intro W4 hW4
        have st4 : Below W3.heap.size W3 W4 := by rw [hW4]; exact (by repeat' (first | (with_reducible exact Below.refl _ _) | (with_reducible assumption) | (with_reducible refine bdrewN _ ?_) | (with_reducible refine Below.alloc ?_ ?_ _) | (with_reducible refine Below.setCell ?_ ?_ _) | (with_reducible refine Below.drew ?_) | go_size | (simp; omega)))
        have Z : Blk W4 (w4.heap.size) (g0 (sz a * d + sz c * b)) (g1 (sz a * d + sz c * b)) (g2 (sz a * d + sz c * b)) (g3 (sz a * d + sz c * b)) := by rw [hW4]; constructor <;> simp (maxDischargeDepth := 12) [go_sem]
        have l_Z : w4.heap.size < W4.heap.size := by rw [hW4]; simp
        clear hW4
        have A : Blk2 W4 (w.heap.size) (a) (b) := HA.out.below st4 l_A
        have l_A : w.heap.size < W4.heap.size := Nat.lt_of_lt_of_le l_A st4.size
        have B : Blk2 W4 (w.heap.size + 1) (c) (d) := HB.out.below st4 l_B
        have l_B : w.heap.size + 1 < W4.heap.size := Nat.lt_of_lt_of_le l_B st4.size
        have R : Blk2 W4 (w.heap.size + 1 + 1) (0) (0) := HR.out.below st4 l_R
        have l_R : w.heap.size + 1 + 1 < W4.heap.size := Nat.lt_of_lt_of_le l_R st4.size
        have X : Blk W4 (bX) (g0 (sz a * d)) (g1 (sz a * d)) (g2 (sz a * d)) (g3 (sz a * d)) := HX.out.below st4 l_X
        have l_X : bX < W4.heap.size := Nat.lt_of_lt_of_le l_X st4.size
        have Y : Blk W4 (bY) (g0 (sz c * b)) (g1 (sz c * b)) (g2 (sz c * b)) (g3 (sz c * b)) := HY.out.below st4 l_Y
        have l_Y : bY < W4.heap.size := Nat.lt_of_lt_of_le l_Y st4.size
        have D : Blk W4 (w3.heap.size) (g0 (b * d)) (g1 (b * d)) (g2 (b * d)) (g3 (b * d)) := HD.out.below st4 l_D
        have l_D : w3.heap.size < W4.heap.size := Nat.lt_of_lt_of_le l_D st4.size
        have hBW4 : Below w.heap.size w W4 := hBW3.trans (st4.mono hBW3.size)
        clear hBW3 st4 HA HB HR HX HY HD
        have HA : Hid (Blk2 W4 (w.heap.size) (a) (b)) := A
        have HB : Hid (Blk2 W4 (w.heap.size + 1) (c) (d)) := B
        have HR : Hid (Blk2 W4 (w.heap.size + 1 + 1) (0) (0)) := R
        have HX : Hid (Blk W4 (bX) (g0 (sz a * d)) (g1 (sz a * d)) (g2 (sz a * d)) (g3 (sz a * d))) := X
        have HY : Hid (Blk W4 (bY) (g0 (sz c * b)) (g1 (sz c * b)) (g2 (sz c * b)) (g3 (sz c * b))) := Y
        have HD : Hid (Blk W4 (w3.heap.size) (g0 (b * d)) (g1 (b * d)) (g2 (b * d)) (g3 (b * d))) := D
        have HZ : Hid (Blk W4 (w4.heap.size) (g0 (sz a * d + sz c * b)) (g1 (sz a * d + sz c * b)) (g2 (sz a * d + sz c * b)) (g3 (sz a * d + sz c * b))) := Z
        clear A B R X Y D Z
        obtain ⟨Z_0, Z_1, Z_2, Z_3, -, -, -, -⟩ := HZ.out
        obtain ⟨D_0, D_1, D_2, D_3, -, -, -, -⟩ := HD.out
        obtain ⟨R_0, R_1, -, -⟩ := HR.out
        have R_2 := HR.out.f0
        have R_3 := HR.out.f1
        have heq : ∀ W : World, _ := fun W => eq_digF W _ _ _ _ 0 0 0 0 hn
        clear hn
        have ne_Z : w4.heap.size ≠ w.heap.size + 1 + 1 := by omega
        have ne_D : w3.heap.size ≠ w.heap.size + 1 + 1 := by omega
        go_cut [7] (fun p wx => p = .int .i64 (rE (sg true (sz a * d + sz c * b)) (b * d)) ∧ Blk2 wx (w.heap.size + 1 + 1) (rN (sg true (sz a * d + sz c * b)) (b * d)) (rD (sg true (sz a * d + sz c * b)) (b * d)) ∧ Below w.heap.size w wx)
        case first =>
          refine wp_region_held_drew (S := fun w' => w'.cell? ⟨w4.heap.size, 0, none⟩ = some (.int .u64 (g0 (sz a * d + sz c * b))) ∧ w'.cell? ⟨w4.heap.size, 1, none⟩ = some (.int .u64 (g1 (sz a * d + sz c * b))) ∧ w'.cell? ⟨w4.heap.size, 2, none⟩ = some (.int .u64 (g2 (sz a * d + sz c * b))) ∧ w'.cell? ⟨w4.heap.size, 3, none⟩ = some (.int .u64 (g3 (sz a * d + sz c * b))) ∧ w'.cell? ⟨w3.heap.size, 0, none⟩ = some (.int .u64 (g0 (b * d))) ∧ w'.cell? ⟨w3.heap.size, 1, none⟩ = some (.int .u64 (g1 (b * d))) ∧ w'.cell? ⟨w3.heap.size, 2, none⟩ = some (.int .u64 (g2 (b * d))) ∧ w'.cell? ⟨w3.heap.size, 3, none⟩ = some (.int .u64 (g3 (b * d)))) (by kernel_rfl) ?_ (fun hHeld => ?_)
          · exact ⟨bcl (n := W4.heap.size) (by go_grown) Z_0 (by simp; try omega), bcl (n := W4.heap.size) (by go_grown) Z_1 (by simp; try omega), bcl (n := W4.heap.size) (by go_grown) Z_2 (by simp; try omega), bcl (n := W4.heap.size) (by go_grown) Z_3 (by simp; try omega), bcl (n := W4.heap.size) (by go_grown) D_0 (by simp; try omega), bcl (n := W4.heap.size) (by go_grown) D_1 (by simp; try omega), bcl (n := W4.heap.size) (by go_grown) D_2 (by simp; try omega), bcl (n := W4.heap.size) (by go_grown) D_3 (by simp; try omega)⟩
          refine wpAnyH_take (i := 0) (oi := ({ dst := some 52, op := Op.move (Operand.tmp 11), type := 4, pos := "ref.go:163", after := #[], guard := none } : Oper)) (v := ?yv100) rfl (by kernel_rfl) (by kernel_rfl) (by kernel_rfl) (fun _ _ _ h => h) (Or.inl ⟨by rfl, ?yh100⟩) (by assumption) ?yr100
          case yh100 => (intro wq hSw; (try dsimp only at hSw); go_simp; first | done | with_reducible rfl)
          simp only [Act.put, List.setIfInBounds_toArray, List.set_cons_zero, List.set_cons_succ]
          refine wpAnyH_take (i := 1) (oi := ({ dst := some 53, op := Op.move (Operand.tmp 52), type := 4, pos := "ref.go:163", after := #[{ on := 0, ground := Ground.data }], guard := none } : Oper)) (v := ?yv101) rfl (by kernel_rfl) (by kernel_rfl) (by kernel_rfl) (fun _ _ _ h => h) (Or.inl ⟨by rfl, ?yh101⟩) (by assumption) ?yr101
          case yh101 => (intro wq hSw; (try dsimp only at hSw); go_simp; first | done | with_reducible rfl)
          simp only [Act.put, List.setIfInBounds_toArray, List.set_cons_zero, List.set_cons_succ]
          refine wpAnyH_take (i := 2) (oi := ({ dst := some 54, op := Op.load 70 (Operand.tmp 13), type := 70, pos := "ref.go:163", after := #[{ on := 1, ground := Ground.guard }], guard := some (1, true) } : Oper)) (v := ?yv102) rfl (by kernel_rfl) (by kernel_rfl) (by kernel_rfl) (fun _ _ _ h => h) (Or.inl ⟨by rfl, ?yh102⟩) (by assumption) ?yr102
          case yh102 => (intro wq hSw; (try dsimp only at hSw); go_simp; first | done | with_reducible rfl)
          simp only [Act.put, List.setIfInBounds_toArray, List.set_cons_zero, List.set_cons_succ]
          refine wpAnyH_take (i := 3) (oi := ({ dst := some 55, op := Op.build 70 #[], type := 70, pos := "ref.go:163", after := #[{ on := 1, ground := Ground.guard }], guard := some (1, true) } : Oper)) (v := ?yv103) rfl (by kernel_rfl) (by kernel_rfl) (by kernel_rfl) (fun _ _ _ h => h) (Or.inl ⟨by rfl, ?yh103⟩) (by assumption) ?yr103
          case yh103 => (intro wq hSw; (try dsimp only at hSw); go_simp; first | done | with_reducible rfl)
          simp only [Act.put, List.setIfInBounds_toArray, List.set_cons_zero, List.set_cons_succ]
          refine wpAnyH_take (i := 4) (oi := ({ dst := some 56, op := Op.binOp BinOp.neq 70 (Operand.tmp 54) (Operand.tmp 55) 70, type := 4, pos := "ref.go:163", after := #[{ on := 2, ground := Ground.data }, { on := 3, ground := Ground.data }, { on := 1, ground := Ground.guard }], guard := some (1, true) } : Oper)) (v := ?yv104) rfl (by kernel_rfl) (by kernel_rfl) (by kernel_rfl) (fun _ _ _ h => h) (Or.inl ⟨by rfl, ?yh104⟩) (by assumption) ?yr104
          case yh104 => (intro wq hSw; (try dsimp only at hSw); go_simp; first | done | with_reducible rfl)
          simp only [Act.put, List.setIfInBounds_toArray, List.set_cons_zero, List.set_cons_succ]
          refine wpAnyH_take (i := 5) (oi := ({ dst := some 57, op := Op.pick (Operand.tmp 53) (Operand.tmp 56) (Operand.const (Value.bool false)), type := 4, pos := "ref.go:163", after := #[{ on := 1, ground := Ground.data }, { on := 4, ground := Ground.data }], guard := none } : Oper)) (v := ?yv105) rfl (by kernel_rfl) (by kernel_rfl) (by kernel_rfl) (fun _ _ _ h => h) (Or.inl ⟨by rfl, ?yh105⟩) (by assumption) ?yr105
          case yh105 => (intro wq hSw; (try dsimp only at hSw); go_simp; first | done | with_reducible rfl)
          simp only [Act.put, List.setIfInBounds_toArray, List.set_cons_zero, List.set_cons_succ]
          refine wpAnyH_take (i := 6) (oi := ({ dst := some 58, op := Op.load 70 (Operand.tmp 13), type := 70, pos := "ref.go:163", after := #[], guard := none } : Oper)) (v := ?yv106) rfl (by kernel_rfl) (by kernel_rfl) (by kernel_rfl) (fun _ _ _ h => h) (Or.inl ⟨by rfl, ?yh106⟩) (by assumption) ?yr106
          case yh106 => (intro wq hSw; (try dsimp only at hSw); go_simp; first | done | with_reducible rfl)
          simp only [Act.put, List.setIfInBounds_toArray, List.set_cons_zero, List.set_cons_succ]
          refine wpAnyH_take (i := 7) (oi := ({ dst := some 59, op := Op.load 70 (Operand.tmp 10), type := 70, pos := "ref.go:163", after := #[], guard := none } : Oper)) (v := ?yv107) rfl (by kernel_rfl) (by kernel_rfl) (by kernel_rfl) (fun _ _ _ h => h) (Or.inl ⟨by rfl, ?yh107⟩) (by assumption) ?yr107
          case yh107 => (intro wq hSw; (try dsimp only at hSw); go_simp; first | done | with_reducible rfl)
          simp only [Act.put, List.setIfInBounds_toArray, List.set_cons_zero, List.set_cons_succ]
          refine wpAnyH_ready (rs := [8]) (by kernel_rfl) (by simp) ?_
          refine AllReadyH.cons (o := ({ dst := some 60, op := Op.call { callee := Callee.value (Operand.func 54), args := #[Operand.tmp 57, Operand.tmp 58, Operand.tmp 59], argTypes := #[4, 70, 70] }, type := 53, pos := "ref.go:163", after := #[{ on := 5, ground := Ground.data }, { on := 6, ground := Ground.data }, { on := 7, ground := Ground.data }, { on := 1, ground := Ground.chain }], guard := none } : Oper)) rfl (fun K hK => ?_) AllReadyH.nil
          go_simp
          go_at_call 54; refine (HM.out _).mono ?_; rintro e w1 ⟨rfl, hb1⟩; obtain ⟨hc1, hf1, hz1, hB1, hn1, hm1⟩ := bg (n := W4.heap.size) (W0 := W4) (by go_grown) (by go_size) hb1; have z_R := hm1 _ l_R; have R0' := bcl hB1 R_0 l_R; have R1' := bcl hB1 R_1 l_R; have R2' := bfr hB1 R_2 l_R; have R3' := bfr hB1 R_3 l_R; clear hm1 hc1 hf1
          (try go_wp2_with fail)
          refine hK.out _ _ ?_ (fun hHeld => ?_)
          · exact ⟨bcl (n := W4.heap.size) (by go_grown) Z_0 (by simp; try omega), bcl (n := W4.heap.size) (by go_grown) Z_1 (by simp; try omega), bcl (n := W4.heap.size) (by go_grown) Z_2 (by simp; try omega), bcl (n := W4.heap.size) (by go_grown) Z_3 (by simp; try omega), bcl (n := W4.heap.size) (by go_grown) D_0 (by simp; try omega), bcl (n := W4.heap.size) (by go_grown) D_1 (by simp; try omega), bcl (n := W4.heap.size) (by go_grown) D_2 (by simp; try omega), bcl (n := W4.heap.size) (by go_grown) D_3 (by simp; try omega)⟩
          clear hK K
          try simp only [Act.put, List.setIfInBounds_toArray, List.set_cons_zero, List.set_cons_succ]
          refine wpAnyH_take (i := 9) (oi := ({ dst := some 61, op := Op.extract (Operand.tmp 60) 0, type := 45, pos := "ref.go:163", after := #[{ on := 8, ground := Ground.data }], guard := none } : Oper)) (v := ?yv109) rfl (by kernel_rfl) (by kernel_rfl) (by kernel_rfl) (fun _ _ _ h => h) (Or.inl ⟨by rfl, ?yh109⟩) (by assumption) ?yr109
          case yh109 => (intro wq hSw; (try dsimp only at hSw); go_simp; first | done | with_reducible rfl)
          simp only [Act.put, List.setIfInBounds_toArray, List.set_cons_zero, List.set_cons_succ]
          refine wpAnyH_take (i := 10) (oi := ({ dst := some 62, op := Op.extract (Operand.tmp 60) 1, type := 24, pos := "ref.go:163", after := #[{ on := 8, ground := Ground.data }], guard := none } : Oper)) (v := ?yv110) rfl (by kernel_rfl) (by kernel_rfl) (by kernel_rfl) (fun _ _ _ h => h) (Or.inl ⟨by rfl, ?yh110⟩) (by assumption) ?yr110
          case yh110 => (intro wq hSw; (try dsimp only at hSw); go_simp; first | done | with_reducible rfl)
          simp only [Act.put, List.setIfInBounds_toArray, List.set_cons_zero, List.set_cons_succ]
          refine wpAnyH_ready (rs := [11]) (by kernel_rfl) (by simp) ?_
          refine AllReadyH.cons (o := ({ dst := none, op := Op.store 45 (Operand.tmp 6) (Operand.tmp 61), type := 0, pos := "ref.go:163", after := #[{ on := 9, ground := Ground.data }, { on := 8, ground := Ground.chain }, { on := 0, ground := Ground.phase }, { on := 1, ground := Ground.phase }, { on := 2, ground := Ground.phase }, { on := 3, ground := Ground.phase }, { on := 4, ground := Ground.phase }, { on := 5, ground := Ground.phase }, { on := 6, ground := Ground.phase }, { on := 7, ground := Ground.phase }, { on := 8, ground := Ground.phase }, { on := 9, ground := Ground.phase }, { on := 10, ground := Ground.phase }], guard := none } : Oper)) rfl (fun K hK => ?_) AllReadyH.nil
          go_simp
          refine hK.out _ _ ?_ (fun hHeld => ?_)
          · exact ⟨kc2 hB1 Z_0 l_Z ne_Z, kc2 hB1 Z_1 l_Z ne_Z, kc2 hB1 Z_2 l_Z ne_Z, kc2 hB1 Z_3 l_Z ne_Z, kc2 hB1 D_0 l_D ne_D, kc2 hB1 D_1 l_D ne_D, kc2 hB1 D_2 l_D ne_D, kc2 hB1 D_3 l_D ne_D⟩
          clear hK K
          try simp only [Act.put, List.setIfInBounds_toArray, List.set_cons_zero, List.set_cons_succ]
          refine wpAnyH_take (i := 12) (oi := ({ dst := some 7, op := Op.assign (Operand.tmp 62), type := 24, pos := "ref.go:163", after := #[{ on := 10, ground := Ground.data }, { on := 11, ground := Ground.chain }, { on := 0, ground := Ground.phase }, { on := 1, ground := Ground.phase }, { on := 2, ground := Ground.phase }, { on := 3, ground := Ground.phase }, { on := 4, ground := Ground.phase }, { on := 5, ground := Ground.phase }, { on := 6, ground := Ground.phase }, { on := 7, ground := Ground.phase }, { on := 8, ground := Ground.phase }, { on := 9, ground := Ground.phase }, { on := 10, ground := Ground.phase }, { on := 11, ground := Ground.phase }], guard := none } : Oper)) (v := ?yv112) rfl (by kernel_rfl) (by kernel_rfl) (by kernel_rfl) (fun _ _ _ h => h) (Or.inl ⟨by rfl, ?yh112⟩) (by assumption) ?yr112
          case yh112 => (intro wq hSw; (try dsimp only at hSw); go_simp; first | done | with_reducible rfl)
          simp only [Act.put, List.setIfInBounds_toArray, List.set_cons_zero, List.set_cons_succ]
          refine wpAnyH_done (by kernel_rfl) ?_ _
          (try go_wp2)
          go_meet
          case rel =>
            have hBx : Below w.heap.size w w1 := hBW4.trans (hB1.mono hBW4.size)
            refine ⟨rfl, ?_, ?_⟩
            · first
                | exact (HR.out.below hB1 l_R).two _ _
                | exact ((HR.out.below hB1 l_R).two _ _).drewN _
                | (constructor <;> simp (maxDischargeDepth := 8) [go_sem, *])
            · exact (by repeat' (first | (with_reducible exact Below.refl _ _) | (with_reducible assumption) | (with_reducible refine bdrewN _ ?_) | (with_reducible refine Below.alloc ?_ ?_ _) | (with_reducible refine Below.setCell ?_ ?_ _) | (with_reducible refine Below.drew ?_) | go_size | (simp; omega)))
        case rest =>
          obtain ⟨rfl, b9, hB9⟩ := hcut
          obtain ⟨x0, x1, -, -⟩ := b9
          clear HM R_2 R_3 Z_0 Z_1 Z_2 Z_3 D_0 D_1 D_2 D_3 R_0 R_1 hBW4
          go_wp2
          refine bodyPost_ret (by simp [results, Tryz.results53, go_sem, x0, x1]; try rfl) rfl ?_
          exact ⟨rfl, hB9⟩
      · have hzz : Hid (g0 ((sz a * d + sz c * b)) = 0 ∧ g1 ((sz a * d + sz c * b)) = 0 ∧ g2 ((sz a * d + sz c * b)) = 0 ∧ g3 ((sz a * d + sz c * b)) = 0) := ⟨n0, n1, n2, n3⟩
        clear n0 n1 n2 n3
        have HA : Hid (Blk2 W3 (w.heap.size) (a) (b)) := A
        have HB : Hid (Blk2 W3 (w.heap.size + 1) (c) (d)) := B
        have HR : Hid (Blk2 W3 (w.heap.size + 1 + 1) (0) (0)) := R
        have HX : Hid (Blk W3 (bX) (g0 (sz a * d)) (g1 (sz a * d)) (g2 (sz a * d)) (g3 (sz a * d))) := X
        have HY : Hid (Blk W3 (bY) (g0 (sz c * b)) (g1 (sz c * b)) (g2 (sz c * b)) (g3 (sz c * b))) := Y
        have HD : Hid (Blk W3 (w3.heap.size) (g0 (b * d)) (g1 (b * d)) (g2 (b * d)) (g3 (b * d))) := D
        clear A B R X Y D
        obtain ⟨X_0, X_1, X_2, X_3, -, -, -, -⟩ := HX.out
        obtain ⟨Y_0, Y_1, Y_2, Y_3, -, -, -, -⟩ := HY.out
        go_wp2_with fail
        refine (rplus_any (sz a * d) (sz c * b) _ hX hY (by omega)).mono ?_
        rintro e w4 ⟨rfl, hb4⟩
        have hz4 := hb4.size
        clear X_0 X_1 X_2 X_3 Y_0 Y_1 Y_2 Y_3
        go_upto_region 8 with fail
        refine wp_world ?_
        intro W4 hW4
        have st4 : Below W3.heap.size W3 W4 := by rw [hW4]; exact (by repeat' (first | (with_reducible exact Below.refl _ _) | (with_reducible assumption) | (with_reducible refine bdrewN _ ?_) | (with_reducible refine Below.alloc ?_ ?_ _) | (with_reducible refine Below.setCell ?_ ?_ _) | (with_reducible refine Below.drew ?_) | go_size | (simp; omega)))
        have Z : Blk W4 (w4.heap.size) (g0 (sz a * d + sz c * b)) (g1 (sz a * d + sz c * b)) (g2 (sz a * d + sz c * b)) (g3 (sz a * d + sz c * b)) := by rw [hW4]; constructor <;> simp (maxDischargeDepth := 12) [go_sem]
        have l_Z : w4.heap.size < W4.heap.size := by rw [hW4]; simp
        clear hW4
        have A : Blk2 W4 (w.heap.size) (a) (b) := HA.out.below st4 l_A
        have l_A : w.heap.size < W4.heap.size := Nat.lt_of_lt_of_le l_A st4.size
        have B : Blk2 W4 (w.heap.size + 1) (c) (d) := HB.out.below st4 l_B
        have l_B : w.heap.size + 1 < W4.heap.size := Nat.lt_of_lt_of_le l_B st4.size
        have R : Blk2 W4 (w.heap.size + 1 + 1) (0) (0) := HR.out.below st4 l_R
        have l_R : w.heap.size + 1 + 1 < W4.heap.size := Nat.lt_of_lt_of_le l_R st4.size
        have X : Blk W4 (bX) (g0 (sz a * d)) (g1 (sz a * d)) (g2 (sz a * d)) (g3 (sz a * d)) := HX.out.below st4 l_X
        have l_X : bX < W4.heap.size := Nat.lt_of_lt_of_le l_X st4.size
        have Y : Blk W4 (bY) (g0 (sz c * b)) (g1 (sz c * b)) (g2 (sz c * b)) (g3 (sz c * b)) := HY.out.below st4 l_Y
        have l_Y : bY < W4.heap.size := Nat.lt_of_lt_of_le l_Y st4.size
        have D : Blk W4 (w3.heap.size) (g0 (b * d)) (g1 (b * d)) (g2 (b * d)) (g3 (b * d)) := HD.out.below st4 l_D
        have l_D : w3.heap.size < W4.heap.size := Nat.lt_of_lt_of_le l_D st4.size
        have hBW4 : Below w.heap.size w W4 := hBW3.trans (st4.mono hBW3.size)
        clear hBW3 st4 HA HB HR HX HY HD
        have HA : Hid (Blk2 W4 (w.heap.size) (a) (b)) := A
        have HB : Hid (Blk2 W4 (w.heap.size + 1) (c) (d)) := B
        have HR : Hid (Blk2 W4 (w.heap.size + 1 + 1) (0) (0)) := R
        have HX : Hid (Blk W4 (bX) (g0 (sz a * d)) (g1 (sz a * d)) (g2 (sz a * d)) (g3 (sz a * d))) := X
        have HY : Hid (Blk W4 (bY) (g0 (sz c * b)) (g1 (sz c * b)) (g2 (sz c * b)) (g3 (sz c * b))) := Y
        have HD : Hid (Blk W4 (w3.heap.size) (g0 (b * d)) (g1 (b * d)) (g2 (b * d)) (g3 (b * d))) := D
        have HZ : Hid (Blk W4 (w4.heap.size) (g0 (sz a * d + sz c * b)) (g1 (sz a * d + sz c * b)) (g2 (sz a * d + sz c * b)) (g3 (sz a * d + sz c * b))) := Z
        clear A B R X Y D Z
        obtain ⟨Z_0, Z_1, Z_2, Z_3, -, -, -, -⟩ := HZ.out
        obtain ⟨D_0, D_1, D_2, D_3, -, -, -, -⟩ := HD.out
        obtain ⟨R_0, R_1, -, -⟩ := HR.out
        have R_2 := HR.out.f0
        have R_3 := HR.out.f1
        have heq : ∀ W : World, _ := fun W => eq_digT W 0 0 0 0
        obtain ⟨n0, n1, n2, n3⟩ := hzz.out
        rw [n0] at Z_0
        rw [n1] at Z_1
        rw [n2] at Z_2
        rw [n3] at Z_3
        rw [n0, n1, n2, n3] at HM
        clear n0 n1 n2 n3 hzz
        have ne_Z : w4.heap.size ≠ w.heap.size + 1 + 1 := by omega
        have ne_D : w3.heap.size ≠ w.heap.size + 1 + 1 := by omega
        go_cut [7] (fun p wx => p = .int .i64 (rE (sg false (sz a * d + sz c * b)) (b * d)) ∧ Blk2 wx (w.heap.size + 1 + 1) (rN (sg false (sz a * d + sz c * b)) (b * d)) (rD (sg false (sz a * d + sz c * b)) (b * d)) ∧ Below w.heap.size w wx)
        case first =>
          refine wp_region_held_drew (S := fun w' => w'.cell? ⟨w4.heap.size, 0, none⟩ = some (.int .u64 0) ∧ w'.cell? ⟨w4.heap.size, 1, none⟩ = some (.int .u64 0) ∧ w'.cell? ⟨w4.heap.size, 2, none⟩ = some (.int .u64 0) ∧ w'.cell? ⟨w4.heap.size, 3, none⟩ = some (.int .u64 0) ∧ w'.cell? ⟨w3.heap.size, 0, none⟩ = some (.int .u64 (g0 (b * d))) ∧ w'.cell? ⟨w3.heap.size, 1, none⟩ = some (.int .u64 (g1 (b * d))) ∧ w'.cell? ⟨w3.heap.size, 2, none⟩ = some (.int .u64 (g2 (b * d))) ∧ w'.cell? ⟨w3.heap.size, 3, none⟩ = some (.int .u64 (g3 (b * d)))) (by kernel_rfl) ?_ (fun hHeld => ?_)
          · exact ⟨bcl (n := W4.heap.size) (by go_grown) Z_0 (by simp; try omega), bcl (n := W4.heap.size) (by go_grown) Z_1 (by simp; try omega), bcl (n := W4.heap.size) (by go_grown) Z_2 (by simp; try omega), bcl (n := W4.heap.size) (by go_grown) Z_3 (by simp; try omega), bcl (n := W4.heap.size) (by go_grown) D_0 (by simp; try omega), bcl (n := W4.heap.size) (by go_grown) D_1 (by simp; try omega), bcl (n := W4.heap.size) (by go_grown) D_2 (by simp; try omega), bcl (n := W4.heap.size) (by go_grown) D_3 (by simp; try omega)⟩
          refine wpAnyH_take (i := 0) (oi := ({ dst := some 52, op := Op.move (Operand.tmp 11), type := 4, pos := "ref.go:163", after := #[], guard := none } : Oper)) (v := ?yv200) rfl (by kernel_rfl) (by kernel_rfl) (by kernel_rfl) (fun _ _ _ h => h) (Or.inl ⟨by rfl, ?yh200⟩) (by assumption) ?yr200
          case yh200 => (intro wq hSw; (try dsimp only at hSw); go_simp; first | done | with_reducible rfl)
          simp only [Act.put, List.setIfInBounds_toArray, List.set_cons_zero, List.set_cons_succ]
          refine wpAnyH_take (i := 1) (oi := ({ dst := some 53, op := Op.move (Operand.tmp 52), type := 4, pos := "ref.go:163", after := #[{ on := 0, ground := Ground.data }], guard := none } : Oper)) (v := ?yv201) rfl (by kernel_rfl) (by kernel_rfl) (by kernel_rfl) (fun _ _ _ h => h) (Or.inl ⟨by rfl, ?yh201⟩) (by assumption) ?yr201
          case yh201 => (intro wq hSw; (try dsimp only at hSw); go_simp; first | done | with_reducible rfl)
          simp only [Act.put, List.setIfInBounds_toArray, List.set_cons_zero, List.set_cons_succ]
          refine wpAnyH_take (i := 2) (oi := ({ dst := some 54, op := Op.load 70 (Operand.tmp 13), type := 70, pos := "ref.go:163", after := #[{ on := 1, ground := Ground.guard }], guard := some (1, true) } : Oper)) (v := ?yv202) rfl (by kernel_rfl) (by kernel_rfl) (by kernel_rfl) (fun _ _ _ h => h) (Or.inl ⟨by rfl, ?yh202⟩) (by assumption) ?yr202
          case yh202 => (intro wq hSw; (try dsimp only at hSw); go_simp; first | done | with_reducible rfl)
          simp only [Act.put, List.setIfInBounds_toArray, List.set_cons_zero, List.set_cons_succ]
          refine wpAnyH_take (i := 3) (oi := ({ dst := some 55, op := Op.build 70 #[], type := 70, pos := "ref.go:163", after := #[{ on := 1, ground := Ground.guard }], guard := some (1, true) } : Oper)) (v := ?yv203) rfl (by kernel_rfl) (by kernel_rfl) (by kernel_rfl) (fun _ _ _ h => h) (Or.inl ⟨by rfl, ?yh203⟩) (by assumption) ?yr203
          case yh203 => (intro wq hSw; (try dsimp only at hSw); go_simp; first | done | with_reducible rfl)
          simp only [Act.put, List.setIfInBounds_toArray, List.set_cons_zero, List.set_cons_succ]
          refine wpAnyH_take (i := 4) (oi := ({ dst := some 56, op := Op.binOp BinOp.neq 70 (Operand.tmp 54) (Operand.tmp 55) 70, type := 4, pos := "ref.go:163", after := #[{ on := 2, ground := Ground.data }, { on := 3, ground := Ground.data }, { on := 1, ground := Ground.guard }], guard := some (1, true) } : Oper)) (v := ?yv204) rfl (by kernel_rfl) (by kernel_rfl) (by kernel_rfl) (fun _ _ _ h => h) (Or.inl ⟨by rfl, ?yh204⟩) (by assumption) ?yr204
          case yh204 => (intro wq hSw; (try dsimp only at hSw); go_simp; first | done | with_reducible rfl)
          simp only [Act.put, List.setIfInBounds_toArray, List.set_cons_zero, List.set_cons_succ]
          refine wpAnyH_take (i := 5) (oi := ({ dst := some 57, op := Op.pick (Operand.tmp 53) (Operand.tmp 56) (Operand.const (Value.bool false)), type := 4, pos := "ref.go:163", after := #[{ on := 1, ground := Ground.data }, { on := 4, ground := Ground.data }], guard := none } : Oper)) (v := ?yv205) rfl (by kernel_rfl) (by kernel_rfl) (by kernel_rfl) (fun _ _ _ h => h) (Or.inl ⟨by rfl, ?yh205⟩) (by assumption) ?yr205
          case yh205 => (intro wq hSw; (try dsimp only at hSw); go_simp; first | done | with_reducible rfl)
          simp only [Act.put, List.setIfInBounds_toArray, List.set_cons_zero, List.set_cons_succ]
          refine wpAnyH_take (i := 6) (oi := ({ dst := some 58, op := Op.load 70 (Operand.tmp 13), type := 70, pos := "ref.go:163", after := #[], guard := none } : Oper)) (v := ?yv206) rfl (by kernel_rfl) (by kernel_rfl) (by kernel_rfl) (fun _ _ _ h => h) (Or.inl ⟨by rfl, ?yh206⟩) (by assumption) ?yr206
          case yh206 => (intro wq hSw; (try dsimp only at hSw); go_simp; first | done | with_reducible rfl)
          simp only [Act.put, List.setIfInBounds_toArray, List.set_cons_zero, List.set_cons_succ]
          refine wpAnyH_take (i := 7) (oi := ({ dst := some 59, op := Op.load 70 (Operand.tmp 10), type := 70, pos := "ref.go:163", after := #[], guard := none } : Oper)) (v := ?yv207) rfl (by kernel_rfl) (by kernel_rfl) (by kernel_rfl) (fun _ _ _ h => h) (Or.inl ⟨by rfl, ?yh207⟩) (by assumption) ?yr207
          case yh207 => (intro wq hSw; (try dsimp only at hSw); go_simp; first | done | with_reducible rfl)
          simp only [Act.put, List.setIfInBounds_toArray, List.set_cons_zero, List.set_cons_succ]
          refine wpAnyH_ready (rs := [8]) (by kernel_rfl) (by simp) ?_
          refine AllReadyH.cons (o := ({ dst := some 60, op := Op.call { callee := Callee.value (Operand.func 54), args := #[Operand.tmp 57, Operand.tmp 58, Operand.tmp 59], argTypes := #[4, 70, 70] }, type := 53, pos := "ref.go:163", after := #[{ on := 5, ground := Ground.data }, { on := 6, ground := Ground.data }, { on := 7, ground := Ground.data }, { on := 1, ground := Ground.chain }], guard := none } : Oper)) rfl (fun K hK => ?_) AllReadyH.nil
          go_simp
          go_at_call 54; refine (HM.out _).mono ?_; rintro e w1 ⟨rfl, hb1⟩; obtain ⟨hc1, hf1, hz1, hB1, hn1, hm1⟩ := bg (n := W4.heap.size) (W0 := W4) (by go_grown) (by go_size) hb1; have z_R := hm1 _ l_R; have R0' := bcl hB1 R_0 l_R; have R1' := bcl hB1 R_1 l_R; have R2' := bfr hB1 R_2 l_R; have R3' := bfr hB1 R_3 l_R; clear hm1 hc1 hf1
          (try go_wp2_with fail)
          refine hK.out _ _ ?_ (fun hHeld => ?_)
          · exact ⟨bcl (n := W4.heap.size) (by go_grown) Z_0 (by simp; try omega), bcl (n := W4.heap.size) (by go_grown) Z_1 (by simp; try omega), bcl (n := W4.heap.size) (by go_grown) Z_2 (by simp; try omega), bcl (n := W4.heap.size) (by go_grown) Z_3 (by simp; try omega), bcl (n := W4.heap.size) (by go_grown) D_0 (by simp; try omega), bcl (n := W4.heap.size) (by go_grown) D_1 (by simp; try omega), bcl (n := W4.heap.size) (by go_grown) D_2 (by simp; try omega), bcl (n := W4.heap.size) (by go_grown) D_3 (by simp; try omega)⟩
          clear hK K
          try simp only [Act.put, List.setIfInBounds_toArray, List.set_cons_zero, List.set_cons_succ]
          refine wpAnyH_take (i := 9) (oi := ({ dst := some 61, op := Op.extract (Operand.tmp 60) 0, type := 45, pos := "ref.go:163", after := #[{ on := 8, ground := Ground.data }], guard := none } : Oper)) (v := ?yv209) rfl (by kernel_rfl) (by kernel_rfl) (by kernel_rfl) (fun _ _ _ h => h) (Or.inl ⟨by rfl, ?yh209⟩) (by assumption) ?yr209
          case yh209 => (intro wq hSw; (try dsimp only at hSw); go_simp; first | done | with_reducible rfl)
          simp only [Act.put, List.setIfInBounds_toArray, List.set_cons_zero, List.set_cons_succ]
          refine wpAnyH_take (i := 10) (oi := ({ dst := some 62, op := Op.extract (Operand.tmp 60) 1, type := 24, pos := "ref.go:163", after := #[{ on := 8, ground := Ground.data }], guard := none } : Oper)) (v := ?yv210) rfl (by kernel_rfl) (by kernel_rfl) (by kernel_rfl) (fun _ _ _ h => h) (Or.inl ⟨by rfl, ?yh210⟩) (by assumption) ?yr210
          case yh210 => (intro wq hSw; (try dsimp only at hSw); go_simp; first | done | with_reducible rfl)
          simp only [Act.put, List.setIfInBounds_toArray, List.set_cons_zero, List.set_cons_succ]
          refine wpAnyH_ready (rs := [11]) (by kernel_rfl) (by simp) ?_
          refine AllReadyH.cons (o := ({ dst := none, op := Op.store 45 (Operand.tmp 6) (Operand.tmp 61), type := 0, pos := "ref.go:163", after := #[{ on := 9, ground := Ground.data }, { on := 8, ground := Ground.chain }, { on := 0, ground := Ground.phase }, { on := 1, ground := Ground.phase }, { on := 2, ground := Ground.phase }, { on := 3, ground := Ground.phase }, { on := 4, ground := Ground.phase }, { on := 5, ground := Ground.phase }, { on := 6, ground := Ground.phase }, { on := 7, ground := Ground.phase }, { on := 8, ground := Ground.phase }, { on := 9, ground := Ground.phase }, { on := 10, ground := Ground.phase }], guard := none } : Oper)) rfl (fun K hK => ?_) AllReadyH.nil
          go_simp
          refine hK.out _ _ ?_ (fun hHeld => ?_)
          · exact ⟨kc2 hB1 Z_0 l_Z ne_Z, kc2 hB1 Z_1 l_Z ne_Z, kc2 hB1 Z_2 l_Z ne_Z, kc2 hB1 Z_3 l_Z ne_Z, kc2 hB1 D_0 l_D ne_D, kc2 hB1 D_1 l_D ne_D, kc2 hB1 D_2 l_D ne_D, kc2 hB1 D_3 l_D ne_D⟩
          clear hK K
          try simp only [Act.put, List.setIfInBounds_toArray, List.set_cons_zero, List.set_cons_succ]
          refine wpAnyH_take (i := 12) (oi := ({ dst := some 7, op := Op.assign (Operand.tmp 62), type := 24, pos := "ref.go:163", after := #[{ on := 10, ground := Ground.data }, { on := 11, ground := Ground.chain }, { on := 0, ground := Ground.phase }, { on := 1, ground := Ground.phase }, { on := 2, ground := Ground.phase }, { on := 3, ground := Ground.phase }, { on := 4, ground := Ground.phase }, { on := 5, ground := Ground.phase }, { on := 6, ground := Ground.phase }, { on := 7, ground := Ground.phase }, { on := 8, ground := Ground.phase }, { on := 9, ground := Ground.phase }, { on := 10, ground := Ground.phase }, { on := 11, ground := Ground.phase }], guard := none } : Oper)) (v := ?yv212) rfl (by kernel_rfl) (by kernel_rfl) (by kernel_rfl) (fun _ _ _ h => h) (Or.inl ⟨by rfl, ?yh212⟩) (by assumption) ?yr212
          case yh212 => (intro wq hSw; (try dsimp only at hSw); go_simp; first | done | with_reducible rfl)
          simp only [Act.put, List.setIfInBounds_toArray, List.set_cons_zero, List.set_cons_succ]
          refine wpAnyH_done (by kernel_rfl) ?_ _
          (try go_wp2)
          go_meet
          case rel =>
            have hBx : Below w.heap.size w w1 := hBW4.trans (hB1.mono hBW4.size)
            refine ⟨rfl, ?_, ?_⟩
            · first
                | exact (HR.out.below hB1 l_R).two _ _
                | exact ((HR.out.below hB1 l_R).two _ _).drewN _
                | (constructor <;> simp (maxDischargeDepth := 8) [go_sem, *])
            · exact (by repeat' (first | (with_reducible exact Below.refl _ _) | (with_reducible assumption) | (with_reducible refine bdrewN _ ?_) | (with_reducible refine Below.alloc ?_ ?_ _) | (with_reducible refine Below.setCell ?_ ?_ _) | (with_reducible refine Below.drew ?_) | go_size | (simp; omega)))
        case rest =>
          obtain ⟨rfl, b9, hB9⟩ := hcut
          obtain ⟨x0, x1, -, -⟩ := b9
          clear HM R_2 R_3 Z_0 Z_1 Z_2 Z_3 D_0 D_1 D_2 D_3 R_0 R_1 hBW4
          go_wp2
          refine bodyPost_ret (by simp [results, Tryz.results53, go_sem, x0, x1]; try rfl) rfl ?_
          exact ⟨rfl, hB9⟩
      · have HA : Hid (Blk2 W3 (w.heap.size) (a) (b)) := A
        have HB : Hid (Blk2 W3 (w.heap.size + 1) (c) (d)) := B
        have HR : Hid (Blk2 W3 (w.heap.size + 1 + 1) (0) (0)) := R
        have HX : Hid (Blk W3 (bX) (g0 (sz a * d)) (g1 (sz a * d)) (g2 (sz a * d)) (g3 (sz a * d))) := X
        have HY : Hid (Blk W3 (bY) (g0 (sz c * b)) (g1 (sz c * b)) (g2 (sz c * b)) (g3 (sz c * b))) := Y
        have HD : Hid (Blk W3 (w3.heap.size) (g0 (b * d)) (g1 (b * d)) (g2 (b * d)) (g3 (b * d))) := D
        clear A B R X Y D
        obtain ⟨X_0, X_1, X_2, X_3, -, -, -, -⟩ := HX.out
        obtain ⟨Y_0, Y_1, Y_2, Y_3, -, -, -, -⟩ := HY.out
        go_wp2_with fail
        refine (rplus_any (sz a * d) (sz c * b) _ hX hY (by omega)).mono ?_
        rintro e w4 ⟨rfl, hb4⟩
        have hz4 := hb4.size
        clear X_0 X_1 X_2 X_3 Y_0 Y_1 Y_2 Y_3
        go_upto_region 8 with fail
        refine wp_world ?_
        intro W4 hW4
        have st4 : Below W3.heap.size W3 W4 := by rw [hW4]; exact (by repeat' (first | (with_reducible exact Below.refl _ _) | (with_reducible assumption) | (with_reducible refine bdrewN _ ?_) | (with_reducible refine Below.alloc ?_ ?_ _) | (with_reducible refine Below.setCell ?_ ?_ _) | (with_reducible refine Below.drew ?_) | go_size | (simp; omega)))
        have Z : Blk W4 (w4.heap.size) (g0 (sz a * d + sz c * b)) (g1 (sz a * d + sz c * b)) (g2 (sz a * d + sz c * b)) (g3 (sz a * d + sz c * b)) := by rw [hW4]; constructor <;> simp (maxDischargeDepth := 12) [go_sem]
        have l_Z : w4.heap.size < W4.heap.size := by rw [hW4]; simp
        clear hW4
        have A : Blk2 W4 (w.heap.size) (a) (b) := HA.out.below st4 l_A
        have l_A : w.heap.size < W4.heap.size := Nat.lt_of_lt_of_le l_A st4.size
        have B : Blk2 W4 (w.heap.size + 1) (c) (d) := HB.out.below st4 l_B
        have l_B : w.heap.size + 1 < W4.heap.size := Nat.lt_of_lt_of_le l_B st4.size
        have R : Blk2 W4 (w.heap.size + 1 + 1) (0) (0) := HR.out.below st4 l_R
        have l_R : w.heap.size + 1 + 1 < W4.heap.size := Nat.lt_of_lt_of_le l_R st4.size
        have X : Blk W4 (bX) (g0 (sz a * d)) (g1 (sz a * d)) (g2 (sz a * d)) (g3 (sz a * d)) := HX.out.below st4 l_X
        have l_X : bX < W4.heap.size := Nat.lt_of_lt_of_le l_X st4.size
        have Y : Blk W4 (bY) (g0 (sz c * b)) (g1 (sz c * b)) (g2 (sz c * b)) (g3 (sz c * b)) := HY.out.below st4 l_Y
        have l_Y : bY < W4.heap.size := Nat.lt_of_lt_of_le l_Y st4.size
        have D : Blk W4 (w3.heap.size) (g0 (b * d)) (g1 (b * d)) (g2 (b * d)) (g3 (b * d)) := HD.out.below st4 l_D
        have l_D : w3.heap.size < W4.heap.size := Nat.lt_of_lt_of_le l_D st4.size
        have hBW4 : Below w.heap.size w W4 := hBW3.trans (st4.mono hBW3.size)
        clear hBW3 st4 HA HB HR HX HY HD
        have HA : Hid (Blk2 W4 (w.heap.size) (a) (b)) := A
        have HB : Hid (Blk2 W4 (w.heap.size + 1) (c) (d)) := B
        have HR : Hid (Blk2 W4 (w.heap.size + 1 + 1) (0) (0)) := R
        have HX : Hid (Blk W4 (bX) (g0 (sz a * d)) (g1 (sz a * d)) (g2 (sz a * d)) (g3 (sz a * d))) := X
        have HY : Hid (Blk W4 (bY) (g0 (sz c * b)) (g1 (sz c * b)) (g2 (sz c * b)) (g3 (sz c * b))) := Y
        have HD : Hid (Blk W4 (w3.heap.size) (g0 (b * d)) (g1 (b * d)) (g2 (b * d)) (g3 (b * d))) := D
        have HZ : Hid (Blk W4 (w4.heap.size) (g0 (sz a * d + sz c * b)) (g1 (sz a * d + sz c * b)) (g2 (sz a * d + sz c * b)) (g3 (sz a * d + sz c * b))) := Z
        clear A B R X Y D Z
        obtain ⟨Z_0, Z_1, Z_2, Z_3, -, -, -, -⟩ := HZ.out
        obtain ⟨D_0, D_1, D_2, D_3, -, -, -, -⟩ := HD.out
        obtain ⟨R_0, R_1, -, -⟩ := HR.out
        have R_2 := HR.out.f0
        have R_3 := HR.out.f1
        have ne_Z : w4.heap.size ≠ w.heap.size + 1 + 1 := by omega
        have ne_D : w3.heap.size ≠ w.heap.size + 1 + 1 := by omega
        go_cut [7] (fun p wx => p = .int .i64 (rE (sg false (sz a * d + sz c * b)) (b * d)) ∧ Blk2 wx (w.heap.size + 1 + 1) (rN (sg false (sz a * d + sz c * b)) (b * d)) (rD (sg false (sz a * d + sz c * b)) (b * d)) ∧ Below w.heap.size w wx)
        case first =>
          refine wp_region_held_drew (S := fun w' => w'.cell? ⟨w4.heap.size, 0, none⟩ = some (.int .u64 (g0 (sz a * d + sz c * b))) ∧ w'.cell? ⟨w4.heap.size, 1, none⟩ = some (.int .u64 (g1 (sz a * d + sz c * b))) ∧ w'.cell? ⟨w4.heap.size, 2, none⟩ = some (.int .u64 (g2 (sz a * d + sz c * b))) ∧ w'.cell? ⟨w4.heap.size, 3, none⟩ = some (.int .u64 (g3 (sz a * d + sz c * b))) ∧ w'.cell? ⟨w3.heap.size, 0, none⟩ = some (.int .u64 (g0 (b * d))) ∧ w'.cell? ⟨w3.heap.size, 1, none⟩ = some (.int .u64 (g1 (b * d))) ∧ w'.cell? ⟨w3.heap.size, 2, none⟩ = some (.int .u64 (g2 (b * d))) ∧ w'.cell? ⟨w3.heap.size, 3, none⟩ = some (.int .u64 (g3 (b * d)))) (by kernel_rfl) ?_ (fun hHeld => ?_)
          · exact ⟨bcl (n := W4.heap.size) (by go_grown) Z_0 (by simp; try omega), bcl (n := W4.heap.size) (by go_grown) Z_1 (by simp; try omega), bcl (n := W4.heap.size) (by go_grown) Z_2 (by simp; try omega), bcl (n := W4.heap.size) (by go_grown) Z_3 (by simp; try omega), bcl (n := W4.heap.size) (by go_grown) D_0 (by simp; try omega), bcl (n := W4.heap.size) (by go_grown) D_1 (by simp; try omega), bcl (n := W4.heap.size) (by go_grown) D_2 (by simp; try omega), bcl (n := W4.heap.size) (by go_grown) D_3 (by simp; try omega)⟩
          refine wpAnyH_take (i := 0) (oi := ({ dst := some 52, op := Op.move (Operand.tmp 11), type := 4, pos := "ref.go:163", after := #[], guard := none } : Oper)) (v := ?yv300) rfl (by kernel_rfl) (by kernel_rfl) (by kernel_rfl) (fun _ _ _ h => h) (Or.inl ⟨by rfl, ?yh300⟩) (by assumption) ?yr300
          case yh300 => (intro wq hSw; (try dsimp only at hSw); go_simp; first | done | with_reducible rfl)
          simp only [Act.put, List.setIfInBounds_toArray, List.set_cons_zero, List.set_cons_succ]
          refine wpAnyH_take (i := 1) (oi := ({ dst := some 53, op := Op.move (Operand.tmp 52), type := 4, pos := "ref.go:163", after := #[{ on := 0, ground := Ground.data }], guard := none } : Oper)) (v := ?yv301) rfl (by kernel_rfl) (by kernel_rfl) (by kernel_rfl) (fun _ _ _ h => h) (Or.inl ⟨by rfl, ?yh301⟩) (by assumption) ?yr301
          case yh301 => (intro wq hSw; (try dsimp only at hSw); go_simp; first | done | with_reducible rfl)
          simp only [Act.put, List.setIfInBounds_toArray, List.set_cons_zero, List.set_cons_succ]
          refine wpAnyH_take (i := 2) (oi := ({ dst := some 54, op := Op.load 70 (Operand.tmp 13), type := 70, pos := "ref.go:163", after := #[{ on := 1, ground := Ground.guard }], guard := some (1, true) } : Oper)) (v := undef) rfl (by kernel_rfl) (by kernel_rfl) (by kernel_rfl) (fun _ _ _ h => h) (Or.inr ⟨by rfl, rfl⟩) (by assumption) ?_
          simp only [Act.put, List.setIfInBounds_toArray, List.set_cons_zero, List.set_cons_succ]
          refine wpAnyH_take (i := 3) (oi := ({ dst := some 55, op := Op.build 70 #[], type := 70, pos := "ref.go:163", after := #[{ on := 1, ground := Ground.guard }], guard := some (1, true) } : Oper)) (v := undef) rfl (by kernel_rfl) (by kernel_rfl) (by kernel_rfl) (fun _ _ _ h => h) (Or.inr ⟨by rfl, rfl⟩) (by assumption) ?_
          simp only [Act.put, List.setIfInBounds_toArray, List.set_cons_zero, List.set_cons_succ]
          refine wpAnyH_take (i := 4) (oi := ({ dst := some 56, op := Op.binOp BinOp.neq 70 (Operand.tmp 54) (Operand.tmp 55) 70, type := 4, pos := "ref.go:163", after := #[{ on := 2, ground := Ground.data }, { on := 3, ground := Ground.data }, { on := 1, ground := Ground.guard }], guard := some (1, true) } : Oper)) (v := undef) rfl (by kernel_rfl) (by kernel_rfl) (by kernel_rfl) (fun _ _ _ h => h) (Or.inr ⟨by rfl, rfl⟩) (by assumption) ?_
          simp only [Act.put, List.setIfInBounds_toArray, List.set_cons_zero, List.set_cons_succ]
          refine wpAnyH_take (i := 5) (oi := ({ dst := some 57, op := Op.pick (Operand.tmp 53) (Operand.tmp 56) (Operand.const (Value.bool false)), type := 4, pos := "ref.go:163", after := #[{ on := 1, ground := Ground.data }, { on := 4, ground := Ground.data }], guard := none } : Oper)) (v := ?yv305) rfl (by kernel_rfl) (by kernel_rfl) (by kernel_rfl) (fun _ _ _ h => h) (Or.inl ⟨by rfl, ?yh305⟩) (by assumption) ?yr305
          case yh305 => (intro wq hSw; (try dsimp only at hSw); go_simp; first | done | with_reducible rfl)
          simp only [Act.put, List.setIfInBounds_toArray, List.set_cons_zero, List.set_cons_succ]
          refine wpAnyH_take (i := 6) (oi := ({ dst := some 58, op := Op.load 70 (Operand.tmp 13), type := 70, pos := "ref.go:163", after := #[], guard := none } : Oper)) (v := ?yv306) rfl (by kernel_rfl) (by kernel_rfl) (by kernel_rfl) (fun _ _ _ h => h) (Or.inl ⟨by rfl, ?yh306⟩) (by assumption) ?yr306
          case yh306 => (intro wq hSw; (try dsimp only at hSw); go_simp; first | done | with_reducible rfl)
          simp only [Act.put, List.setIfInBounds_toArray, List.set_cons_zero, List.set_cons_succ]
          refine wpAnyH_take (i := 7) (oi := ({ dst := some 59, op := Op.load 70 (Operand.tmp 10), type := 70, pos := "ref.go:163", after := #[], guard := none } : Oper)) (v := ?yv307) rfl (by kernel_rfl) (by kernel_rfl) (by kernel_rfl) (fun _ _ _ h => h) (Or.inl ⟨by rfl, ?yh307⟩) (by assumption) ?yr307
          case yh307 => (intro wq hSw; (try dsimp only at hSw); go_simp; first | done | with_reducible rfl)
          simp only [Act.put, List.setIfInBounds_toArray, List.set_cons_zero, List.set_cons_succ]
          refine wpAnyH_ready (rs := [8]) (by kernel_rfl) (by simp) ?_
          refine AllReadyH.cons (o := ({ dst := some 60, op := Op.call { callee := Callee.value (Operand.func 54), args := #[Operand.tmp 57, Operand.tmp 58, Operand.tmp 59], argTypes := #[4, 70, 70] }, type := 53, pos := "ref.go:163", after := #[{ on := 5, ground := Ground.data }, { on := 6, ground := Ground.data }, { on := 7, ground := Ground.data }, { on := 1, ground := Ground.chain }], guard := none } : Oper)) rfl (fun K hK => ?_) AllReadyH.nil
          go_simp
          go_at_call 54; refine (HM.out _).mono ?_; rintro e w1 ⟨rfl, hb1⟩; obtain ⟨hc1, hf1, hz1, hB1, hn1, hm1⟩ := bg (n := W4.heap.size) (W0 := W4) (by go_grown) (by go_size) hb1; have z_R := hm1 _ l_R; have R0' := bcl hB1 R_0 l_R; have R1' := bcl hB1 R_1 l_R; have R2' := bfr hB1 R_2 l_R; have R3' := bfr hB1 R_3 l_R; clear hm1 hc1 hf1
          (try go_wp2_with fail)
          refine hK.out _ _ ?_ (fun hHeld => ?_)
          · exact ⟨bcl (n := W4.heap.size) (by go_grown) Z_0 (by simp; try omega), bcl (n := W4.heap.size) (by go_grown) Z_1 (by simp; try omega), bcl (n := W4.heap.size) (by go_grown) Z_2 (by simp; try omega), bcl (n := W4.heap.size) (by go_grown) Z_3 (by simp; try omega), bcl (n := W4.heap.size) (by go_grown) D_0 (by simp; try omega), bcl (n := W4.heap.size) (by go_grown) D_1 (by simp; try omega), bcl (n := W4.heap.size) (by go_grown) D_2 (by simp; try omega), bcl (n := W4.heap.size) (by go_grown) D_3 (by simp; try omega)⟩
          clear hK K
          try simp only [Act.put, List.setIfInBounds_toArray, List.set_cons_zero, List.set_cons_succ]
          refine wpAnyH_take (i := 9) (oi := ({ dst := some 61, op := Op.extract (Operand.tmp 60) 0, type := 45, pos := "ref.go:163", after := #[{ on := 8, ground := Ground.data }], guard := none } : Oper)) (v := ?yv309) rfl (by kernel_rfl) (by kernel_rfl) (by kernel_rfl) (fun _ _ _ h => h) (Or.inl ⟨by rfl, ?yh309⟩) (by assumption) ?yr309
          case yh309 => (intro wq hSw; (try dsimp only at hSw); go_simp; first | done | with_reducible rfl)
          simp only [Act.put, List.setIfInBounds_toArray, List.set_cons_zero, List.set_cons_succ]
          refine wpAnyH_take (i := 10) (oi := ({ dst := some 62, op := Op.extract (Operand.tmp 60) 1, type := 24, pos := "ref.go:163", after := #[{ on := 8, ground := Ground.data }], guard := none } : Oper)) (v := ?yv310) rfl (by kernel_rfl) (by kernel_rfl) (by kernel_rfl) (fun _ _ _ h => h) (Or.inl ⟨by rfl, ?yh310⟩) (by assumption) ?yr310
          case yh310 => (intro wq hSw; (try dsimp only at hSw); go_simp; first | done | with_reducible rfl)
          simp only [Act.put, List.setIfInBounds_toArray, List.set_cons_zero, List.set_cons_succ]
          refine wpAnyH_ready (rs := [11]) (by kernel_rfl) (by simp) ?_
          refine AllReadyH.cons (o := ({ dst := none, op := Op.store 45 (Operand.tmp 6) (Operand.tmp 61), type := 0, pos := "ref.go:163", after := #[{ on := 9, ground := Ground.data }, { on := 8, ground := Ground.chain }, { on := 0, ground := Ground.phase }, { on := 1, ground := Ground.phase }, { on := 2, ground := Ground.phase }, { on := 3, ground := Ground.phase }, { on := 4, ground := Ground.phase }, { on := 5, ground := Ground.phase }, { on := 6, ground := Ground.phase }, { on := 7, ground := Ground.phase }, { on := 8, ground := Ground.phase }, { on := 9, ground := Ground.phase }, { on := 10, ground := Ground.phase }], guard := none } : Oper)) rfl (fun K hK => ?_) AllReadyH.nil
          go_simp
          refine hK.out _ _ ?_ (fun hHeld => ?_)
          · exact ⟨kc2 hB1 Z_0 l_Z ne_Z, kc2 hB1 Z_1 l_Z ne_Z, kc2 hB1 Z_2 l_Z ne_Z, kc2 hB1 Z_3 l_Z ne_Z, kc2 hB1 D_0 l_D ne_D, kc2 hB1 D_1 l_D ne_D, kc2 hB1 D_2 l_D ne_D, kc2 hB1 D_3 l_D ne_D⟩
          clear hK K
          try simp only [Act.put, List.setIfInBounds_toArray, List.set_cons_zero, List.set_cons_succ]
          refine wpAnyH_take (i := 12) (oi := ({ dst := some 7, op := Op.assign (Operand.tmp 62), type := 24, pos := "ref.go:163", after := #[{ on := 10, ground := Ground.data }, { on := 11, ground := Ground.chain }, { on := 0, ground := Ground.phase }, { on := 1, ground := Ground.phase }, { on := 2, ground := Ground.phase }, { on := 3, ground := Ground.phase }, { on := 4, ground := Ground.phase }, { on := 5, ground := Ground.phase }, { on := 6, ground := Ground.phase }, { on := 7, ground := Ground.phase }, { on := 8, ground := Ground.phase }, { on := 9, ground := Ground.phase }, { on := 10, ground := Ground.phase }, { on := 11, ground := Ground.phase }], guard := none } : Oper)) (v := ?yv312) rfl (by kernel_rfl) (by kernel_rfl) (by kernel_rfl) (fun _ _ _ h => h) (Or.inl ⟨by rfl, ?yh312⟩) (by assumption) ?yr312
          case yh312 => (intro wq hSw; (try dsimp only at hSw); go_simp; first | done | with_reducible rfl)
          simp only [Act.put, List.setIfInBounds_toArray, List.set_cons_zero, List.set_cons_succ]
          refine wpAnyH_done (by kernel_rfl) ?_ _
          (try go_wp2)
          go_meet
          case rel =>
            have hBx : Below w.heap.size w w1 := hBW4.trans (hB1.mono hBW4.size)
            refine ⟨rfl, ?_, ?_⟩
            · first
                | exact (HR.out.below hB1 l_R).two _ _
                | exact ((HR.out.below hB1 l_R).two _ _).drewN _
                | (constructor <;> simp (maxDischargeDepth := 8) [go_sem, *])
            · exact (by repeat' (first | (with_reducible exact Below.refl _ _) | (with_reducible assumption) | (with_reducible refine bdrewN _ ?_) | (with_reducible refine Below.alloc ?_ ?_ _) | (with_reducible refine Below.setCell ?_ ?_ _) | (with_reducible refine Below.drew ?_) | go_size | (simp; omega)))
        case rest =>
          obtain ⟨rfl, b9, hB9⟩ := hcut
          obtain ⟨x0, x1, -, -⟩ := b9
          clear HM R_2 R_3 Z_0 Z_1 Z_2 Z_3 D_0 D_1 D_2 D_3 R_0 R_1 hBW4
          go_wp2
          refine bodyPost_ret (by simp [results, Tryz.results53, go_sem, x0, x1]; try rfl) rfl ?_
          exact ⟨rfl, hB9⟩

end Go.Proofs.YtedoahibceeklaaGreatDoor

namespace Go.Proofs.YtedoahibceeklaaGreatDoor
open Go.RowKit

set_option maxRecDepth 100000 in
set_option maxHeartbeats 8000000 in
theorem rsum_rawB (p q s minus : Bool) (a b c d n : Int) (w : World) (ha : -9223372036854775808 ≤ a) (ha' : a ≤ 9223372036854775807) (hb : -9223372036854775808 ≤ b) (hb' : b ≤ 9223372036854775807) (hc : -9223372036854775808 ≤ c) (hc' : c ≤ 9223372036854775807) (hd : -9223372036854775808 ≤ d) (hd' : d ≤ 9223372036854775807) (pb : 0 < b) (pd : 0 < d) (za : 0 ≤ sz a) (za' : sz a ≤ 9223372036854775808) (zc : 0 ≤ sz c) (zc' : sz c ≤ 9223372036854775808)
    (hX : 0 ≤ sz a * d) (hX' : sz a * d ≤ 85070591730234615865843651857942052864) (hY : 0 ≤ sz c * b) (hY' : sz c * b ≤ 85070591730234615865843651857942052864)
    (eqp : Hid (decide (a < 0) = p)) (eqq : Hid ((!(decide (c < 0) == minus)) = q))
    (HM : Hid (∀ W : World, Calls Tryz.prog 54 #[.bool s, .agg #[.int .u64 (g0 (n)), .int .u64 (g1 (n)), .int .u64 (g2 (n)), .int .u64 (g3 (n))], .agg #[.int .u64 (g0 (b * d)), .int .u64 (g1 (b * d)), .int .u64 (g2 (b * d)), .int .u64 (g3 (b * d))]] W fun e w' => e = .returned (.tuple #[.agg #[.int .i64 (rN (sg s (n)) (b * d)), .int .i64 (rD (sg s (n)) (b * d))], .int .i64 (rE (sg s (n)) (b * d))]) ∧ Below W.heap.size W w'))
    (hcase : (p = true ∧ q = false ∧ n = (sz a * d - sz c * b) ∧ s = true ∧ sz c * b ≤ sz a * d ∧ ¬ (g0 ((sz a * d - sz c * b)) = 0 ∧ g1 ((sz a * d - sz c * b)) = 0 ∧ g2 ((sz a * d - sz c * b)) = 0 ∧ g3 ((sz a * d - sz c * b)) = 0)) ∨ (p = true ∧ q = false ∧ n = (sz a * d - sz c * b) ∧ s = false ∧ sz c * b ≤ sz a * d ∧ g0 ((sz a * d - sz c * b)) = 0 ∧ g1 ((sz a * d - sz c * b)) = 0 ∧ g2 ((sz a * d - sz c * b)) = 0 ∧ g3 ((sz a * d - sz c * b)) = 0) ∨ (p = true ∧ q = false ∧ n = (sz c * b - sz a * d) ∧ s = false ∧ sz a * d < sz c * b)) :
    Calls Tryz.prog 53 #[.agg #[.int .i64 a, .int .i64 b], .agg #[.int .i64 c, .int .i64 d], .bool minus] w fun e w' => e = .returned (.tuple #[.agg #[.int .i64 (rN (sg s (n)) (b * d)), .int .i64 (rD (sg s (n)) (b * d))], .int .i64 (rE (sg s (n)) (b * d))]) ∧ Below w.heap.size w w' := by
  have ub : IntKind.u64.wrap b = b := by rw [IntKind.wrap_u64]; omega
  have ud : IntKind.u64.wrap d = d := by rw [IntKind.wrap_u64]; omega
  go_enter Tryz.func53, Tryz.ntmps53
  go_upto_region 1 with fail
  refine wp_world ?_
  intro W0 hW0
  have A : Blk2 W0 (w.heap.size) (a) (b) := by rw [hW0]; constructor <;> simp (maxDischargeDepth := 12) [go_sem]
  have l_A : w.heap.size < W0.heap.size := by rw [hW0]; first | (simp; done) | (simp; omega)
  have B : Blk2 W0 (w.heap.size + 1) (c) (d) := by rw [hW0]; constructor <;> simp (maxDischargeDepth := 12) [go_sem]
  have l_B : w.heap.size + 1 < W0.heap.size := by rw [hW0]; first | (simp; done) | (simp; omega)
  have R : Blk2 W0 (w.heap.size + 1 + 1) (0) (0) := by rw [hW0]; constructor <;> simp (maxDischargeDepth := 12) [go_sem]
  have l_R : w.heap.size + 1 + 1 < W0.heap.size := by rw [hW0]; first | (simp; done) | (simp; omega)
  have hB0 : Below w.heap.size w W0 := by rw [hW0]; exact (by repeat' (first | (with_reducible exact Below.refl _ _) | (with_reducible assumption) | (with_reducible refine bdrewN _ ?_) | (with_reducible refine Below.alloc ?_ ?_ _) | (with_reducible refine Below.setCell ?_ ?_ _) | (with_reducible refine Below.drew ?_) | go_size | (simp; omega)))
  clear hW0
  have HA : Hid (Blk2 W0 (w.heap.size) (a) (b)) := A
  have HB : Hid (Blk2 W0 (w.heap.size + 1) (c) (d)) := B
  have HR : Hid (Blk2 W0 (w.heap.size + 1 + 1) (0) (0)) := R
  clear A B R
  obtain ⟨A_0, A_1, -, -⟩ := HA.out
  obtain ⟨B_0, B_1, -, -⟩ := HB.out
  go_cut [8] (fun p wx => ∃ bn : Nat, p = .pointer (some ⟨bn, 0, none⟩) ∧ W0.heap.size ≤ bn ∧ bn < wx.heap.size ∧ Blk wx bn (g0 (sz a * d)) (g1 (sz a * d)) (g2 (sz a * d)) (g3 (sz a * d)) ∧ Below W0.heap.size W0 wx)
  case first =>
    go_region_held3 (fun w' => w'.cell? ⟨w.heap.size, 0, none⟩ = some (.int .i64 (a)) ∧ w'.cell? ⟨w.heap.size, 1, none⟩ = some (.int .i64 (b)) ∧ w'.cell? ⟨w.heap.size + 1, 0, none⟩ = some (.int .i64 (c)) ∧ w'.cell? ⟨w.heap.size + 1, 1, none⟩ = some (.int .i64 (d))) (exact ⟨bcl (n := W0.heap.size) (by go_grown) A_0 (by simp; try omega), bcl (n := W0.heap.size) (by go_grown) A_1 (by simp; try omega), bcl (n := W0.heap.size) (by go_grown) B_0 (by simp; try omega), bcl (n := W0.heap.size) (by go_grown) B_1 (by simp; try omega)⟩)
      (first
        | (go_at_call 47; refine (rsize_any _ _ (by omega) (by omega)).mono ?_; rintro e w' ⟨rfl, rfl⟩)
        | (go_at_call 46; refine (rtimes_any _ _ _ (by omega) (by omega) (by omega) (by omega)).mono ?_; rintro e w1 ⟨rfl, hb1⟩; obtain ⟨hc1, hf1, hz1, hB1, hn1, hm1⟩ := bg (n := W0.heap.size) (W0 := W0) (by go_grown) (by go_size) hb1; have z_A := hm1 (w.heap.size) l_A; have z_B := hm1 (w.heap.size + 1) l_B; clear hm1))
    all_goals
      go_wp2
      go_meet
      case rel =>
        refine ⟨_, rfl, ?_, ?_, ?_, ?_⟩
        · first | go_size | (simp; omega)
        · first | omega | (simp; done) | (simp; omega) | simp (maxDischargeDepth := 8) [go_sem, *]
        · constructor <;> simp (maxDischargeDepth := 8) [go_sem, *]
        · exact (by repeat' (first | (with_reducible exact Below.refl _ _) | (with_reducible assumption) | (with_reducible refine bdrewN _ ?_) | (with_reducible refine Below.alloc ?_ ?_ _) | (with_reducible refine Below.setCell ?_ ?_ _) | (with_reducible refine Below.drew ?_) | go_size | (simp; omega)))
  case rest =>
    obtain ⟨bX, rfl, n_X, l_X, X, st1⟩ := hcut
    clear A_0 A_1 B_0 B_1
    obtain ⟨V1, eV1⟩ : ∃ V1 : World, V1 = wc := ⟨_, rfl⟩
    rw [← eV1] at l_X X st1 ⊢
    clear eV1 wc
    have A : Blk2 V1 (w.heap.size) (a) (b) := HA.out.below st1 l_A
    have l_A : w.heap.size < V1.heap.size := Nat.lt_of_lt_of_le l_A st1.size
    have B : Blk2 V1 (w.heap.size + 1) (c) (d) := HB.out.below st1 l_B
    have l_B : w.heap.size + 1 < V1.heap.size := Nat.lt_of_lt_of_le l_B st1.size
    have R : Blk2 V1 (w.heap.size + 1 + 1) (0) (0) := HR.out.below st1 l_R
    have l_R : w.heap.size + 1 + 1 < V1.heap.size := Nat.lt_of_lt_of_le l_R st1.size
    have hBV1 : Below w.heap.size w V1 := hB0.trans (st1.mono hB0.size)
    clear hB0 st1 HA HB HR
    go_upto_region 2 with fail
    have HA : Hid (Blk2 V1 (w.heap.size) (a) (b)) := A
    have HB : Hid (Blk2 V1 (w.heap.size + 1) (c) (d)) := B
    have HR : Hid (Blk2 V1 (w.heap.size + 1 + 1) (0) (0)) := R
    have HX : Hid (Blk V1 (bX) (g0 (sz a * d)) (g1 (sz a * d)) (g2 (sz a * d)) (g3 (sz a * d))) := X
    clear A B R X
    obtain ⟨A_0, A_1, -, -⟩ := HA.out
    obtain ⟨B_0, B_1, -, -⟩ := HB.out
    go_cut [9] (fun p wx => ∃ bn : Nat, p = .pointer (some ⟨bn, 0, none⟩) ∧ V1.heap.size ≤ bn ∧ bn < wx.heap.size ∧ Blk wx bn (g0 (sz c * b)) (g1 (sz c * b)) (g2 (sz c * b)) (g3 (sz c * b)) ∧ Below V1.heap.size V1 wx)
    case first =>
      go_region_held3 (fun w' => w'.cell? ⟨w.heap.size, 0, none⟩ = some (.int .i64 (a)) ∧ w'.cell? ⟨w.heap.size, 1, none⟩ = some (.int .i64 (b)) ∧ w'.cell? ⟨w.heap.size + 1, 0, none⟩ = some (.int .i64 (c)) ∧ w'.cell? ⟨w.heap.size + 1, 1, none⟩ = some (.int .i64 (d))) (exact ⟨bcl (n := V1.heap.size) (by go_grown) A_0 (by simp; try omega), bcl (n := V1.heap.size) (by go_grown) A_1 (by simp; try omega), bcl (n := V1.heap.size) (by go_grown) B_0 (by simp; try omega), bcl (n := V1.heap.size) (by go_grown) B_1 (by simp; try omega)⟩)
        (first
          | (go_at_call 47; refine (rsize_any _ _ (by omega) (by omega)).mono ?_; rintro e w' ⟨rfl, rfl⟩)
          | (go_at_call 46; refine (rtimes_any _ _ _ (by omega) (by omega) (by omega) (by omega)).mono ?_; rintro e w1 ⟨rfl, hb1⟩; obtain ⟨hc1, hf1, hz1, hB1, hn1, hm1⟩ := bg (n := V1.heap.size) (W0 := V1) (by go_grown) (by go_size) hb1; have z_A := hm1 (w.heap.size) l_A; have z_B := hm1 (w.heap.size + 1) l_B; clear hm1))
      all_goals
        go_wp2
        go_meet
        case rel =>
          refine ⟨_, rfl, ?_, ?_, ?_, ?_⟩
          · first | go_size | (simp; omega)
          · first | omega | (simp; done) | (simp; omega) | simp (maxDischargeDepth := 8) [go_sem, *]
          · constructor <;> simp (maxDischargeDepth := 8) [go_sem, *]
          · exact (by repeat' (first | (with_reducible exact Below.refl _ _) | (with_reducible assumption) | (with_reducible refine bdrewN _ ?_) | (with_reducible refine Below.alloc ?_ ?_ _) | (with_reducible refine Below.setCell ?_ ?_ _) | (with_reducible refine Below.drew ?_) | go_size | (simp; omega)))
    case rest =>
      obtain ⟨bY, rfl, n_Y, l_Y, Y, st2⟩ := hcut
      clear A_0 A_1 B_0 B_1
      obtain ⟨V2, eV2⟩ : ∃ V2 : World, V2 = wc := ⟨_, rfl⟩
      rw [← eV2] at l_Y Y st2 ⊢
      clear eV2 wc
      have A : Blk2 V2 (w.heap.size) (a) (b) := HA.out.below st2 l_A
      have l_A : w.heap.size < V2.heap.size := Nat.lt_of_lt_of_le l_A st2.size
      have B : Blk2 V2 (w.heap.size + 1) (c) (d) := HB.out.below st2 l_B
      have l_B : w.heap.size + 1 < V2.heap.size := Nat.lt_of_lt_of_le l_B st2.size
      have R : Blk2 V2 (w.heap.size + 1 + 1) (0) (0) := HR.out.below st2 l_R
      have l_R : w.heap.size + 1 + 1 < V2.heap.size := Nat.lt_of_lt_of_le l_R st2.size
      have X : Blk V2 (bX) (g0 (sz a * d)) (g1 (sz a * d)) (g2 (sz a * d)) (g3 (sz a * d)) := HX.out.below st2 l_X
      have l_X : bX < V2.heap.size := Nat.lt_of_lt_of_le l_X st2.size
      have hBV2 : Below w.heap.size w V2 := hBV1.trans (st2.mono hBV1.size)
      clear hBV1 st2 HA HB HR HX
      go_upto_region 3 with fail
      have HA : Hid (Blk2 V2 (w.heap.size) (a) (b)) := A
      have HB : Hid (Blk2 V2 (w.heap.size + 1) (c) (d)) := B
      have HR : Hid (Blk2 V2 (w.heap.size + 1 + 1) (0) (0)) := R
      have HX : Hid (Blk V2 (bX) (g0 (sz a * d)) (g1 (sz a * d)) (g2 (sz a * d)) (g3 (sz a * d))) := X
      have HY : Hid (Blk V2 (bY) (g0 (sz c * b)) (g1 (sz c * b)) (g2 (sz c * b)) (g3 (sz c * b))) := Y
      clear A B R X Y
      obtain ⟨A_0, A_1, -, -⟩ := HA.out
      obtain ⟨B_0, B_1, -, -⟩ := HB.out
      go_wp2_with fail
      refine (rtimes_any b d _ (by omega) (by omega) (by omega) (by omega)).mono ?_
      rintro e w3 ⟨rfl, hb3⟩
      have hz3 := hb3.size
      clear A_0 A_1 B_0 B_1
      go_upto_region 4 with fail
      refine wp_world ?_
      intro W3 hW3
      have st3 : Below V2.heap.size V2 W3 := by rw [hW3]; exact (by repeat' (first | (with_reducible exact Below.refl _ _) | (with_reducible assumption) | (with_reducible refine bdrewN _ ?_) | (with_reducible refine Below.alloc ?_ ?_ _) | (with_reducible refine Below.setCell ?_ ?_ _) | (with_reducible refine Below.drew ?_) | go_size | (simp; omega)))
      have D : Blk W3 (w3.heap.size) (g0 (b * d)) (g1 (b * d)) (g2 (b * d)) (g3 (b * d)) := by rw [hW3]; constructor <;> simp (maxDischargeDepth := 12) [go_sem]
      have l_D : w3.heap.size < W3.heap.size := by rw [hW3]; simp
      clear hW3
      have A : Blk2 W3 (w.heap.size) (a) (b) := HA.out.below st3 l_A
      have l_A : w.heap.size < W3.heap.size := Nat.lt_of_lt_of_le l_A st3.size
      have B : Blk2 W3 (w.heap.size + 1) (c) (d) := HB.out.below st3 l_B
      have l_B : w.heap.size + 1 < W3.heap.size := Nat.lt_of_lt_of_le l_B st3.size
      have R : Blk2 W3 (w.heap.size + 1 + 1) (0) (0) := HR.out.below st3 l_R
      have l_R : w.heap.size + 1 + 1 < W3.heap.size := Nat.lt_of_lt_of_le l_R st3.size
      have X : Blk W3 (bX) (g0 (sz a * d)) (g1 (sz a * d)) (g2 (sz a * d)) (g3 (sz a * d)) := HX.out.below st3 l_X
      have l_X : bX < W3.heap.size := Nat.lt_of_lt_of_le l_X st3.size
      have Y : Blk W3 (bY) (g0 (sz c * b)) (g1 (sz c * b)) (g2 (sz c * b)) (g3 (sz c * b)) := HY.out.below st3 l_Y
      have l_Y : bY < W3.heap.size := Nat.lt_of_lt_of_le l_Y st3.size
      have hBW3 : Below w.heap.size w W3 := hBV2.trans (st3.mono hBV2.size)
      clear hBV2 st3 HA HB HR HX HY
      have HA : Hid (Blk2 W3 (w.heap.size) (a) (b)) := A
      have HB : Hid (Blk2 W3 (w.heap.size + 1) (c) (d)) := B
      have HR : Hid (Blk2 W3 (w.heap.size + 1 + 1) (0) (0)) := R
      have HX : Hid (Blk W3 (bX) (g0 (sz a * d)) (g1 (sz a * d)) (g2 (sz a * d)) (g3 (sz a * d))) := X
      have HY : Hid (Blk W3 (bY) (g0 (sz c * b)) (g1 (sz c * b)) (g2 (sz c * b)) (g3 (sz c * b))) := Y
      have HD : Hid (Blk W3 (w3.heap.size) (g0 (b * d)) (g1 (b * d)) (g2 (b * d)) (g3 (b * d))) := D
      clear A B R X Y D
      obtain ⟨A_0, A_1, -, -⟩ := HA.out
      obtain ⟨B_0, B_1, -, -⟩ := HB.out
      go_upto_region 6 with fail
      rw [eqp.out, eqq.out]
      clear eqp eqq A_0 A_1 B_0 B_1
      have A := HA.out
      have B := HB.out
      have R := HR.out
      have X := HX.out
      have Y := HY.out
      have D := HD.out
      clear HA HB HR HX HY HD
      rcases hcase with ⟨rfl, rfl, rfl, rfl, hxy, hn⟩ | ⟨rfl, rfl, rfl, rfl, hxy, n0, n1, n2, n3⟩ | ⟨rfl, rfl, rfl, rfl, hxy⟩
      · obtain ⟨cc, ecc⟩ : ∃ cc : Int, Hid (cmpI (sz a * d) (sz c * b) = cc) := ⟨_, rfl⟩
        have hcc : 0 ≤ cc := by rw [← ecc.out]; unfold cmpI; split <;> (try split) <;> omega
        have HA : Hid (Blk2 W3 (w.heap.size) (a) (b)) := A
        have HB : Hid (Blk2 W3 (w.heap.size + 1) (c) (d)) := B
        have HR : Hid (Blk2 W3 (w.heap.size + 1 + 1) (0) (0)) := R
        have HX : Hid (Blk W3 (bX) (g0 (sz a * d)) (g1 (sz a * d)) (g2 (sz a * d)) (g3 (sz a * d))) := X
        have HY : Hid (Blk W3 (bY) (g0 (sz c * b)) (g1 (sz c * b)) (g2 (sz c * b)) (g3 (sz c * b))) := Y
        have HD : Hid (Blk W3 (w3.heap.size) (g0 (b * d)) (g1 (b * d)) (g2 (b * d)) (g3 (b * d))) := D
        clear A B R X Y D
        obtain ⟨X_0, X_1, X_2, X_3, -, -, -, -⟩ := HX.out
        obtain ⟨Y_0, Y_1, Y_2, Y_3, -, -, -, -⟩ := HY.out
        go_wp2_with fail
        refine (rcompare_any (sz a * d) (sz c * b) _ hX (by omega) hY (by omega)).mono ?_
        rintro e w4 ⟨rfl, hb4⟩
        clear X_0 X_1 X_2 X_3 Y_0 Y_1 Y_2 Y_3
        rw [ecc.out]
        go_upto_region 10 with fail
        refine wp_world ?_
        intro W4 hW4
        have st4 : Below W3.heap.size W3 W4 := by rw [hW4]; exact (by repeat' (first | (with_reducible exact Below.refl _ _) | (with_reducible assumption) | (with_reducible refine bdrewN _ ?_) | (with_reducible refine Below.alloc ?_ ?_ _) | (with_reducible refine Below.setCell ?_ ?_ _) | (with_reducible refine Below.drew ?_) | go_size | (simp; omega)))
        clear hW4 hb4
        have A : Blk2 W4 (w.heap.size) (a) (b) := HA.out.below st4 l_A
        have l_A : w.heap.size < W4.heap.size := Nat.lt_of_lt_of_le l_A st4.size
        have B : Blk2 W4 (w.heap.size + 1) (c) (d) := HB.out.below st4 l_B
        have l_B : w.heap.size + 1 < W4.heap.size := Nat.lt_of_lt_of_le l_B st4.size
        have R : Blk2 W4 (w.heap.size + 1 + 1) (0) (0) := HR.out.below st4 l_R
        have l_R : w.heap.size + 1 + 1 < W4.heap.size := Nat.lt_of_lt_of_le l_R st4.size
        have X : Blk W4 (bX) (g0 (sz a * d)) (g1 (sz a * d)) (g2 (sz a * d)) (g3 (sz a * d)) := HX.out.below st4 l_X
        have l_X : bX < W4.heap.size := Nat.lt_of_lt_of_le l_X st4.size
        have Y : Blk W4 (bY) (g0 (sz c * b)) (g1 (sz c * b)) (g2 (sz c * b)) (g3 (sz c * b)) := HY.out.below st4 l_Y
        have l_Y : bY < W4.heap.size := Nat.lt_of_lt_of_le l_Y st4.size
        have D : Blk W4 (w3.heap.size) (g0 (b * d)) (g1 (b * d)) (g2 (b * d)) (g3 (b * d)) := HD.out.below st4 l_D
        have l_D : w3.heap.size < W4.heap.size := Nat.lt_of_lt_of_le l_D st4.size
        have hBW4 : Below w.heap.size w W4 := hBW3.trans (st4.mono hBW3.size)
        clear hBW3 st4 HA HB HR HX HY HD
        have HA : Hid (Blk2 W4 (w.heap.size) (a) (b)) := A
        have HB : Hid (Blk2 W4 (w.heap.size + 1) (c) (d)) := B
        have HR : Hid (Blk2 W4 (w.heap.size + 1 + 1) (0) (0)) := R
        have HX : Hid (Blk W4 (bX) (g0 (sz a * d)) (g1 (sz a * d)) (g2 (sz a * d)) (g3 (sz a * d))) := X
        have HY : Hid (Blk W4 (bY) (g0 (sz c * b)) (g1 (sz c * b)) (g2 (sz c * b)) (g3 (sz c * b))) := Y
        have HD : Hid (Blk W4 (w3.heap.size) (g0 (b * d)) (g1 (b * d)) (g2 (b * d)) (g3 (b * d))) := D
        clear A B R X Y D
        obtain ⟨X_0, X_1, X_2, X_3, -, -, -, -⟩ := HX.out
        obtain ⟨Y_0, Y_1, Y_2, Y_3, -, -, -, -⟩ := HY.out
        go_wp2_with fail
        refine (rless_any (sz a * d) (sz c * b) _ hY hxy (by omega)).mono ?_
        rintro e w5 ⟨rfl, hb5⟩
        have hz5 := hb5.size
        clear X_0 X_1 X_2 X_3 Y_0 Y_1 Y_2 Y_3
        go_upto_region 12 with fail
        refine wp_world ?_
        intro W5 hW5
        have st5 : Below W4.heap.size W4 W5 := by rw [hW5]; exact (by repeat' (first | (with_reducible exact Below.refl _ _) | (with_reducible assumption) | (with_reducible refine bdrewN _ ?_) | (with_reducible refine Below.alloc ?_ ?_ _) | (with_reducible refine Below.setCell ?_ ?_ _) | (with_reducible refine Below.drew ?_) | go_size | (simp; omega)))
        have Z : Blk W5 (w5.heap.size) (g0 (sz a * d - sz c * b)) (g1 (sz a * d - sz c * b)) (g2 (sz a * d - sz c * b)) (g3 (sz a * d - sz c * b)) := by rw [hW5]; constructor <;> simp (maxDischargeDepth := 12) [go_sem]
        have l_Z : w5.heap.size < W5.heap.size := by rw [hW5]; simp
        clear hW5
        have A : Blk2 W5 (w.heap.size) (a) (b) := HA.out.below st5 l_A
        have l_A : w.heap.size < W5.heap.size := Nat.lt_of_lt_of_le l_A st5.size
        have B : Blk2 W5 (w.heap.size + 1) (c) (d) := HB.out.below st5 l_B
        have l_B : w.heap.size + 1 < W5.heap.size := Nat.lt_of_lt_of_le l_B st5.size
        have R : Blk2 W5 (w.heap.size + 1 + 1) (0) (0) := HR.out.below st5 l_R
        have l_R : w.heap.size + 1 + 1 < W5.heap.size := Nat.lt_of_lt_of_le l_R st5.size
        have X : Blk W5 (bX) (g0 (sz a * d)) (g1 (sz a * d)) (g2 (sz a * d)) (g3 (sz a * d)) := HX.out.below st5 l_X
        have l_X : bX < W5.heap.size := Nat.lt_of_lt_of_le l_X st5.size
        have Y : Blk W5 (bY) (g0 (sz c * b)) (g1 (sz c * b)) (g2 (sz c * b)) (g3 (sz c * b)) := HY.out.below st5 l_Y
        have l_Y : bY < W5.heap.size := Nat.lt_of_lt_of_le l_Y st5.size
        have D : Blk W5 (w3.heap.size) (g0 (b * d)) (g1 (b * d)) (g2 (b * d)) (g3 (b * d)) := HD.out.below st5 l_D
        have l_D : w3.heap.size < W5.heap.size := Nat.lt_of_lt_of_le l_D st5.size
        have hBW5 : Below w.heap.size w W5 := hBW4.trans (st5.mono hBW4.size)
        clear hBW4 st5 HA HB HR HX HY HD
        have HA : Hid (Blk2 W5 (w.heap.size) (a) (b)) := A
        have HB : Hid (Blk2 W5 (w.heap.size + 1) (c) (d)) := B
        have HR : Hid (Blk2 W5 (w.heap.size + 1 + 1) (0) (0)) := R
        have HX : Hid (Blk W5 (bX) (g0 (sz a * d)) (g1 (sz a * d)) (g2 (sz a * d)) (g3 (sz a * d))) := X
        have HY : Hid (Blk W5 (bY) (g0 (sz c * b)) (g1 (sz c * b)) (g2 (sz c * b)) (g3 (sz c * b))) := Y
        have HD : Hid (Blk W5 (w3.heap.size) (g0 (b * d)) (g1 (b * d)) (g2 (b * d)) (g3 (b * d))) := D
        have HZ : Hid (Blk W5 (w5.heap.size) (g0 (sz a * d - sz c * b)) (g1 (sz a * d - sz c * b)) (g2 (sz a * d - sz c * b)) (g3 (sz a * d - sz c * b))) := Z
        clear A B R X Y D Z
        obtain ⟨Z_0, Z_1, Z_2, Z_3, -, -, -, -⟩ := HZ.out
        obtain ⟨D_0, D_1, D_2, D_3, -, -, -, -⟩ := HD.out
        obtain ⟨R_0, R_1, -, -⟩ := HR.out
        have R_2 := HR.out.f0
        have R_3 := HR.out.f1
        have heq : ∀ W : World, _ := fun W => eq_digF W _ _ _ _ 0 0 0 0 hn
        clear hn
        have ne_Z : w5.heap.size ≠ w.heap.size + 1 + 1 := by omega
        have ne_D : w3.heap.size ≠ w.heap.size + 1 + 1 := by omega
        go_cut [7] (fun p wx => p = .int .i64 (rE (sg true (sz a * d - sz c * b)) (b * d)) ∧ Blk2 wx (w.heap.size + 1 + 1) (rN (sg true (sz a * d - sz c * b)) (b * d)) (rD (sg true (sz a * d - sz c * b)) (b * d)) ∧ Below w.heap.size w wx)
        case first =>
          refine wp_region_held_drew (S := fun w' => w'.cell? ⟨w5.heap.size, 0, none⟩ = some (.int .u64 (g0 (sz a * d - sz c * b))) ∧ w'.cell? ⟨w5.heap.size, 1, none⟩ = some (.int .u64 (g1 (sz a * d - sz c * b))) ∧ w'.cell? ⟨w5.heap.size, 2, none⟩ = some (.int .u64 (g2 (sz a * d - sz c * b))) ∧ w'.cell? ⟨w5.heap.size, 3, none⟩ = some (.int .u64 (g3 (sz a * d - sz c * b))) ∧ w'.cell? ⟨w3.heap.size, 0, none⟩ = some (.int .u64 (g0 (b * d))) ∧ w'.cell? ⟨w3.heap.size, 1, none⟩ = some (.int .u64 (g1 (b * d))) ∧ w'.cell? ⟨w3.heap.size, 2, none⟩ = some (.int .u64 (g2 (b * d))) ∧ w'.cell? ⟨w3.heap.size, 3, none⟩ = some (.int .u64 (g3 (b * d)))) (by kernel_rfl) ?_ (fun hHeld => ?_)
          · exact ⟨bcl (n := W5.heap.size) (by go_grown) Z_0 (by simp; try omega), bcl (n := W5.heap.size) (by go_grown) Z_1 (by simp; try omega), bcl (n := W5.heap.size) (by go_grown) Z_2 (by simp; try omega), bcl (n := W5.heap.size) (by go_grown) Z_3 (by simp; try omega), bcl (n := W5.heap.size) (by go_grown) D_0 (by simp; try omega), bcl (n := W5.heap.size) (by go_grown) D_1 (by simp; try omega), bcl (n := W5.heap.size) (by go_grown) D_2 (by simp; try omega), bcl (n := W5.heap.size) (by go_grown) D_3 (by simp; try omega)⟩
          refine wpAnyH_take (i := 0) (oi := ({ dst := some 71, op := Op.move (Operand.tmp 11), type := 4, pos := "ref.go:168", after := #[], guard := none } : Oper)) (v := ?yv100) rfl (by kernel_rfl) (by kernel_rfl) (by kernel_rfl) (fun _ _ _ h => h) (Or.inl ⟨by rfl, ?yh100⟩) (by assumption) ?yr100
          case yh100 => (intro wq hSw; (try dsimp only at hSw); go_simp; first | done | with_reducible rfl)
          simp only [Act.put, List.setIfInBounds_toArray, List.set_cons_zero, List.set_cons_succ]
          refine wpAnyH_take (i := 1) (oi := ({ dst := some 72, op := Op.move (Operand.tmp 71), type := 4, pos := "ref.go:168", after := #[{ on := 0, ground := Ground.data }], guard := none } : Oper)) (v := ?yv101) rfl (by kernel_rfl) (by kernel_rfl) (by kernel_rfl) (fun _ _ _ h => h) (Or.inl ⟨by rfl, ?yh101⟩) (by assumption) ?yr101
          case yh101 => (intro wq hSw; (try dsimp only at hSw); go_simp; first | done | with_reducible rfl)
          simp only [Act.put, List.setIfInBounds_toArray, List.set_cons_zero, List.set_cons_succ]
          refine wpAnyH_take (i := 2) (oi := ({ dst := some 73, op := Op.load 70 (Operand.tmp 15), type := 70, pos := "ref.go:168", after := #[{ on := 1, ground := Ground.guard }], guard := some (1, true) } : Oper)) (v := ?yv102) rfl (by kernel_rfl) (by kernel_rfl) (by kernel_rfl) (fun _ _ _ h => h) (Or.inl ⟨by rfl, ?yh102⟩) (by assumption) ?yr102
          case yh102 => (intro wq hSw; (try dsimp only at hSw); go_simp; first | done | with_reducible rfl)
          simp only [Act.put, List.setIfInBounds_toArray, List.set_cons_zero, List.set_cons_succ]
          refine wpAnyH_take (i := 3) (oi := ({ dst := some 74, op := Op.build 70 #[], type := 70, pos := "ref.go:168", after := #[{ on := 1, ground := Ground.guard }], guard := some (1, true) } : Oper)) (v := ?yv103) rfl (by kernel_rfl) (by kernel_rfl) (by kernel_rfl) (fun _ _ _ h => h) (Or.inl ⟨by rfl, ?yh103⟩) (by assumption) ?yr103
          case yh103 => (intro wq hSw; (try dsimp only at hSw); go_simp; first | done | with_reducible rfl)
          simp only [Act.put, List.setIfInBounds_toArray, List.set_cons_zero, List.set_cons_succ]
          refine wpAnyH_take (i := 4) (oi := ({ dst := some 75, op := Op.binOp BinOp.neq 70 (Operand.tmp 73) (Operand.tmp 74) 70, type := 4, pos := "ref.go:168", after := #[{ on := 2, ground := Ground.data }, { on := 3, ground := Ground.data }, { on := 1, ground := Ground.guard }], guard := some (1, true) } : Oper)) (v := ?yv104) rfl (by kernel_rfl) (by kernel_rfl) (by kernel_rfl) (fun _ _ _ h => h) (Or.inl ⟨by rfl, ?yh104⟩) (by assumption) ?yr104
          case yh104 => (intro wq hSw; (try dsimp only at hSw); go_simp; first | done | with_reducible rfl)
          simp only [Act.put, List.setIfInBounds_toArray, List.set_cons_zero, List.set_cons_succ]
          refine wpAnyH_take (i := 5) (oi := ({ dst := some 76, op := Op.pick (Operand.tmp 72) (Operand.tmp 75) (Operand.const (Value.bool false)), type := 4, pos := "ref.go:168", after := #[{ on := 1, ground := Ground.data }, { on := 4, ground := Ground.data }], guard := none } : Oper)) (v := ?yv105) rfl (by kernel_rfl) (by kernel_rfl) (by kernel_rfl) (fun _ _ _ h => h) (Or.inl ⟨by rfl, ?yh105⟩) (by assumption) ?yr105
          case yh105 => (intro wq hSw; (try dsimp only at hSw); go_simp; first | done | with_reducible rfl)
          simp only [Act.put, List.setIfInBounds_toArray, List.set_cons_zero, List.set_cons_succ]
          refine wpAnyH_take (i := 6) (oi := ({ dst := some 77, op := Op.load 70 (Operand.tmp 15), type := 70, pos := "ref.go:168", after := #[], guard := none } : Oper)) (v := ?yv106) rfl (by kernel_rfl) (by kernel_rfl) (by kernel_rfl) (fun _ _ _ h => h) (Or.inl ⟨by rfl, ?yh106⟩) (by assumption) ?yr106
          case yh106 => (intro wq hSw; (try dsimp only at hSw); go_simp; first | done | with_reducible rfl)
          simp only [Act.put, List.setIfInBounds_toArray, List.set_cons_zero, List.set_cons_succ]
          refine wpAnyH_take (i := 7) (oi := ({ dst := some 78, op := Op.load 70 (Operand.tmp 10), type := 70, pos := "ref.go:168", after := #[], guard := none } : Oper)) (v := ?yv107) rfl (by kernel_rfl) (by kernel_rfl) (by kernel_rfl) (fun _ _ _ h => h) (Or.inl ⟨by rfl, ?yh107⟩) (by assumption) ?yr107
          case yh107 => (intro wq hSw; (try dsimp only at hSw); go_simp; first | done | with_reducible rfl)
          simp only [Act.put, List.setIfInBounds_toArray, List.set_cons_zero, List.set_cons_succ]
          refine wpAnyH_ready (rs := [8]) (by kernel_rfl) (by simp) ?_
          refine AllReadyH.cons (o := ({ dst := some 79, op := Op.call { callee := Callee.value (Operand.func 54), args := #[Operand.tmp 76, Operand.tmp 77, Operand.tmp 78], argTypes := #[4, 70, 70] }, type := 53, pos := "ref.go:168", after := #[{ on := 5, ground := Ground.data }, { on := 6, ground := Ground.data }, { on := 7, ground := Ground.data }, { on := 1, ground := Ground.chain }], guard := none } : Oper)) rfl (fun K hK => ?_) AllReadyH.nil
          go_simp
          go_at_call 54; refine (HM.out _).mono ?_; rintro e w1 ⟨rfl, hb1⟩; obtain ⟨hc1, hf1, hz1, hB1, hn1, hm1⟩ := bg (n := W5.heap.size) (W0 := W5) (by go_grown) (by go_size) hb1; have z_R := hm1 _ l_R; have R0' := bcl hB1 R_0 l_R; have R1' := bcl hB1 R_1 l_R; have R2' := bfr hB1 R_2 l_R; have R3' := bfr hB1 R_3 l_R; clear hm1 hc1 hf1
          (try go_wp2_with fail)
          refine hK.out _ _ ?_ (fun hHeld => ?_)
          · exact ⟨bcl (n := W5.heap.size) (by go_grown) Z_0 (by simp; try omega), bcl (n := W5.heap.size) (by go_grown) Z_1 (by simp; try omega), bcl (n := W5.heap.size) (by go_grown) Z_2 (by simp; try omega), bcl (n := W5.heap.size) (by go_grown) Z_3 (by simp; try omega), bcl (n := W5.heap.size) (by go_grown) D_0 (by simp; try omega), bcl (n := W5.heap.size) (by go_grown) D_1 (by simp; try omega), bcl (n := W5.heap.size) (by go_grown) D_2 (by simp; try omega), bcl (n := W5.heap.size) (by go_grown) D_3 (by simp; try omega)⟩
          clear hK K
          try simp only [Act.put, List.setIfInBounds_toArray, List.set_cons_zero, List.set_cons_succ]
          refine wpAnyH_take (i := 9) (oi := ({ dst := some 80, op := Op.extract (Operand.tmp 79) 0, type := 45, pos := "ref.go:168", after := #[{ on := 8, ground := Ground.data }], guard := none } : Oper)) (v := ?yv109) rfl (by kernel_rfl) (by kernel_rfl) (by kernel_rfl) (fun _ _ _ h => h) (Or.inl ⟨by rfl, ?yh109⟩) (by assumption) ?yr109
          case yh109 => (intro wq hSw; (try dsimp only at hSw); go_simp; first | done | with_reducible rfl)
          simp only [Act.put, List.setIfInBounds_toArray, List.set_cons_zero, List.set_cons_succ]
          refine wpAnyH_take (i := 10) (oi := ({ dst := some 81, op := Op.extract (Operand.tmp 79) 1, type := 24, pos := "ref.go:168", after := #[{ on := 8, ground := Ground.data }], guard := none } : Oper)) (v := ?yv110) rfl (by kernel_rfl) (by kernel_rfl) (by kernel_rfl) (fun _ _ _ h => h) (Or.inl ⟨by rfl, ?yh110⟩) (by assumption) ?yr110
          case yh110 => (intro wq hSw; (try dsimp only at hSw); go_simp; first | done | with_reducible rfl)
          simp only [Act.put, List.setIfInBounds_toArray, List.set_cons_zero, List.set_cons_succ]
          refine wpAnyH_ready (rs := [11]) (by kernel_rfl) (by simp) ?_
          refine AllReadyH.cons (o := ({ dst := none, op := Op.store 45 (Operand.tmp 6) (Operand.tmp 80), type := 0, pos := "ref.go:168", after := #[{ on := 9, ground := Ground.data }, { on := 8, ground := Ground.chain }, { on := 0, ground := Ground.phase }, { on := 1, ground := Ground.phase }, { on := 2, ground := Ground.phase }, { on := 3, ground := Ground.phase }, { on := 4, ground := Ground.phase }, { on := 5, ground := Ground.phase }, { on := 6, ground := Ground.phase }, { on := 7, ground := Ground.phase }, { on := 8, ground := Ground.phase }, { on := 9, ground := Ground.phase }, { on := 10, ground := Ground.phase }], guard := none } : Oper)) rfl (fun K hK => ?_) AllReadyH.nil
          go_simp
          refine hK.out _ _ ?_ (fun hHeld => ?_)
          · exact ⟨kc2 hB1 Z_0 l_Z ne_Z, kc2 hB1 Z_1 l_Z ne_Z, kc2 hB1 Z_2 l_Z ne_Z, kc2 hB1 Z_3 l_Z ne_Z, kc2 hB1 D_0 l_D ne_D, kc2 hB1 D_1 l_D ne_D, kc2 hB1 D_2 l_D ne_D, kc2 hB1 D_3 l_D ne_D⟩
          clear hK K
          try simp only [Act.put, List.setIfInBounds_toArray, List.set_cons_zero, List.set_cons_succ]
          refine wpAnyH_take (i := 12) (oi := ({ dst := some 7, op := Op.assign (Operand.tmp 81), type := 24, pos := "ref.go:168", after := #[{ on := 10, ground := Ground.data }, { on := 11, ground := Ground.chain }, { on := 0, ground := Ground.phase }, { on := 1, ground := Ground.phase }, { on := 2, ground := Ground.phase }, { on := 3, ground := Ground.phase }, { on := 4, ground := Ground.phase }, { on := 5, ground := Ground.phase }, { on := 6, ground := Ground.phase }, { on := 7, ground := Ground.phase }, { on := 8, ground := Ground.phase }, { on := 9, ground := Ground.phase }, { on := 10, ground := Ground.phase }, { on := 11, ground := Ground.phase }], guard := none } : Oper)) (v := ?yv112) rfl (by kernel_rfl) (by kernel_rfl) (by kernel_rfl) (fun _ _ _ h => h) (Or.inl ⟨by rfl, ?yh112⟩) (by assumption) ?yr112
          case yh112 => (intro wq hSw; (try dsimp only at hSw); go_simp; first | done | with_reducible rfl)
          simp only [Act.put, List.setIfInBounds_toArray, List.set_cons_zero, List.set_cons_succ]
          refine wpAnyH_done (by kernel_rfl) ?_ _
          (try go_wp2)
          go_meet
          case rel =>
            have hBx : Below w.heap.size w w1 := hBW5.trans (hB1.mono hBW5.size)
            refine ⟨rfl, ?_, ?_⟩
            · first
                | exact (HR.out.below hB1 l_R).two _ _
                | exact ((HR.out.below hB1 l_R).two _ _).drewN _
                | (constructor <;> simp (maxDischargeDepth := 8) [go_sem, *])
            · exact (by repeat' (first | (with_reducible exact Below.refl _ _) | (with_reducible assumption) | (with_reducible refine bdrewN _ ?_) | (with_reducible refine Below.alloc ?_ ?_ _) | (with_reducible refine Below.setCell ?_ ?_ _) | (with_reducible refine Below.drew ?_) | go_size | (simp; omega)))
        case rest =>
          obtain ⟨rfl, b9, hB9⟩ := hcut
          obtain ⟨x0, x1, -, -⟩ := b9
          clear HM R_2 R_3 Z_0 Z_1 Z_2 Z_3 D_0 D_1 D_2 D_3 R_0 R_1 hBW5
          go_wp2
          refine bodyPost_ret (by simp [results, Tryz.results53, go_sem, x0, x1]; try rfl) rfl ?_
          exact ⟨rfl, hB9⟩
      · have hzz : Hid (g0 ((sz a * d - sz c * b)) = 0 ∧ g1 ((sz a * d - sz c * b)) = 0 ∧ g2 ((sz a * d - sz c * b)) = 0 ∧ g3 ((sz a * d - sz c * b)) = 0) := ⟨n0, n1, n2, n3⟩
        clear n0 n1 n2 n3
        obtain ⟨cc, ecc⟩ : ∃ cc : Int, Hid (cmpI (sz a * d) (sz c * b) = cc) := ⟨_, rfl⟩
        have hcc : 0 ≤ cc := by rw [← ecc.out]; unfold cmpI; split <;> (try split) <;> omega
        have HA : Hid (Blk2 W3 (w.heap.size) (a) (b)) := A
        have HB : Hid (Blk2 W3 (w.heap.size + 1) (c) (d)) := B
        have HR : Hid (Blk2 W3 (w.heap.size + 1 + 1) (0) (0)) := R
        have HX : Hid (Blk W3 (bX) (g0 (sz a * d)) (g1 (sz a * d)) (g2 (sz a * d)) (g3 (sz a * d))) := X
        have HY : Hid (Blk W3 (bY) (g0 (sz c * b)) (g1 (sz c * b)) (g2 (sz c * b)) (g3 (sz c * b))) := Y
        have HD : Hid (Blk W3 (w3.heap.size) (g0 (b * d)) (g1 (b * d)) (g2 (b * d)) (g3 (b * d))) := D
        clear A B R X Y D
        obtain ⟨X_0, X_1, X_2, X_3, -, -, -, -⟩ := HX.out
        obtain ⟨Y_0, Y_1, Y_2, Y_3, -, -, -, -⟩ := HY.out
        go_wp2_with fail
        refine (rcompare_any (sz a * d) (sz c * b) _ hX (by omega) hY (by omega)).mono ?_
        rintro e w4 ⟨rfl, hb4⟩
        clear X_0 X_1 X_2 X_3 Y_0 Y_1 Y_2 Y_3
        rw [ecc.out]
        go_upto_region 10 with fail
        refine wp_world ?_
        intro W4 hW4
        have st4 : Below W3.heap.size W3 W4 := by rw [hW4]; exact (by repeat' (first | (with_reducible exact Below.refl _ _) | (with_reducible assumption) | (with_reducible refine bdrewN _ ?_) | (with_reducible refine Below.alloc ?_ ?_ _) | (with_reducible refine Below.setCell ?_ ?_ _) | (with_reducible refine Below.drew ?_) | go_size | (simp; omega)))
        clear hW4 hb4
        have A : Blk2 W4 (w.heap.size) (a) (b) := HA.out.below st4 l_A
        have l_A : w.heap.size < W4.heap.size := Nat.lt_of_lt_of_le l_A st4.size
        have B : Blk2 W4 (w.heap.size + 1) (c) (d) := HB.out.below st4 l_B
        have l_B : w.heap.size + 1 < W4.heap.size := Nat.lt_of_lt_of_le l_B st4.size
        have R : Blk2 W4 (w.heap.size + 1 + 1) (0) (0) := HR.out.below st4 l_R
        have l_R : w.heap.size + 1 + 1 < W4.heap.size := Nat.lt_of_lt_of_le l_R st4.size
        have X : Blk W4 (bX) (g0 (sz a * d)) (g1 (sz a * d)) (g2 (sz a * d)) (g3 (sz a * d)) := HX.out.below st4 l_X
        have l_X : bX < W4.heap.size := Nat.lt_of_lt_of_le l_X st4.size
        have Y : Blk W4 (bY) (g0 (sz c * b)) (g1 (sz c * b)) (g2 (sz c * b)) (g3 (sz c * b)) := HY.out.below st4 l_Y
        have l_Y : bY < W4.heap.size := Nat.lt_of_lt_of_le l_Y st4.size
        have D : Blk W4 (w3.heap.size) (g0 (b * d)) (g1 (b * d)) (g2 (b * d)) (g3 (b * d)) := HD.out.below st4 l_D
        have l_D : w3.heap.size < W4.heap.size := Nat.lt_of_lt_of_le l_D st4.size
        have hBW4 : Below w.heap.size w W4 := hBW3.trans (st4.mono hBW3.size)
        clear hBW3 st4 HA HB HR HX HY HD
        have HA : Hid (Blk2 W4 (w.heap.size) (a) (b)) := A
        have HB : Hid (Blk2 W4 (w.heap.size + 1) (c) (d)) := B
        have HR : Hid (Blk2 W4 (w.heap.size + 1 + 1) (0) (0)) := R
        have HX : Hid (Blk W4 (bX) (g0 (sz a * d)) (g1 (sz a * d)) (g2 (sz a * d)) (g3 (sz a * d))) := X
        have HY : Hid (Blk W4 (bY) (g0 (sz c * b)) (g1 (sz c * b)) (g2 (sz c * b)) (g3 (sz c * b))) := Y
        have HD : Hid (Blk W4 (w3.heap.size) (g0 (b * d)) (g1 (b * d)) (g2 (b * d)) (g3 (b * d))) := D
        clear A B R X Y D
        obtain ⟨X_0, X_1, X_2, X_3, -, -, -, -⟩ := HX.out
        obtain ⟨Y_0, Y_1, Y_2, Y_3, -, -, -, -⟩ := HY.out
        go_wp2_with fail
        refine (rless_any (sz a * d) (sz c * b) _ hY hxy (by omega)).mono ?_
        rintro e w5 ⟨rfl, hb5⟩
        have hz5 := hb5.size
        clear X_0 X_1 X_2 X_3 Y_0 Y_1 Y_2 Y_3
        go_upto_region 12 with fail
        refine wp_world ?_
        intro W5 hW5
        have st5 : Below W4.heap.size W4 W5 := by rw [hW5]; exact (by repeat' (first | (with_reducible exact Below.refl _ _) | (with_reducible assumption) | (with_reducible refine bdrewN _ ?_) | (with_reducible refine Below.alloc ?_ ?_ _) | (with_reducible refine Below.setCell ?_ ?_ _) | (with_reducible refine Below.drew ?_) | go_size | (simp; omega)))
        have Z : Blk W5 (w5.heap.size) (g0 (sz a * d - sz c * b)) (g1 (sz a * d - sz c * b)) (g2 (sz a * d - sz c * b)) (g3 (sz a * d - sz c * b)) := by rw [hW5]; constructor <;> simp (maxDischargeDepth := 12) [go_sem]
        have l_Z : w5.heap.size < W5.heap.size := by rw [hW5]; simp
        clear hW5
        have A : Blk2 W5 (w.heap.size) (a) (b) := HA.out.below st5 l_A
        have l_A : w.heap.size < W5.heap.size := Nat.lt_of_lt_of_le l_A st5.size
        have B : Blk2 W5 (w.heap.size + 1) (c) (d) := HB.out.below st5 l_B
        have l_B : w.heap.size + 1 < W5.heap.size := Nat.lt_of_lt_of_le l_B st5.size
        have R : Blk2 W5 (w.heap.size + 1 + 1) (0) (0) := HR.out.below st5 l_R
        have l_R : w.heap.size + 1 + 1 < W5.heap.size := Nat.lt_of_lt_of_le l_R st5.size
        have X : Blk W5 (bX) (g0 (sz a * d)) (g1 (sz a * d)) (g2 (sz a * d)) (g3 (sz a * d)) := HX.out.below st5 l_X
        have l_X : bX < W5.heap.size := Nat.lt_of_lt_of_le l_X st5.size
        have Y : Blk W5 (bY) (g0 (sz c * b)) (g1 (sz c * b)) (g2 (sz c * b)) (g3 (sz c * b)) := HY.out.below st5 l_Y
        have l_Y : bY < W5.heap.size := Nat.lt_of_lt_of_le l_Y st5.size
        have D : Blk W5 (w3.heap.size) (g0 (b * d)) (g1 (b * d)) (g2 (b * d)) (g3 (b * d)) := HD.out.below st5 l_D
        have l_D : w3.heap.size < W5.heap.size := Nat.lt_of_lt_of_le l_D st5.size
        have hBW5 : Below w.heap.size w W5 := hBW4.trans (st5.mono hBW4.size)
        clear hBW4 st5 HA HB HR HX HY HD
        have HA : Hid (Blk2 W5 (w.heap.size) (a) (b)) := A
        have HB : Hid (Blk2 W5 (w.heap.size + 1) (c) (d)) := B
        have HR : Hid (Blk2 W5 (w.heap.size + 1 + 1) (0) (0)) := R
        have HX : Hid (Blk W5 (bX) (g0 (sz a * d)) (g1 (sz a * d)) (g2 (sz a * d)) (g3 (sz a * d))) := X
        have HY : Hid (Blk W5 (bY) (g0 (sz c * b)) (g1 (sz c * b)) (g2 (sz c * b)) (g3 (sz c * b))) := Y
        have HD : Hid (Blk W5 (w3.heap.size) (g0 (b * d)) (g1 (b * d)) (g2 (b * d)) (g3 (b * d))) := D
        have HZ : Hid (Blk W5 (w5.heap.size) (g0 (sz a * d - sz c * b)) (g1 (sz a * d - sz c * b)) (g2 (sz a * d - sz c * b)) (g3 (sz a * d - sz c * b))) := Z
        clear A B R X Y D Z
        obtain ⟨Z_0, Z_1, Z_2, Z_3, -, -, -, -⟩ := HZ.out
        obtain ⟨D_0, D_1, D_2, D_3, -, -, -, -⟩ := HD.out
        obtain ⟨R_0, R_1, -, -⟩ := HR.out
        have R_2 := HR.out.f0
        have R_3 := HR.out.f1
        have heq : ∀ W : World, _ := fun W => eq_digT W 0 0 0 0
        obtain ⟨n0, n1, n2, n3⟩ := hzz.out
        rw [n0] at Z_0
        rw [n1] at Z_1
        rw [n2] at Z_2
        rw [n3] at Z_3
        rw [n0, n1, n2, n3] at HM
        clear n0 n1 n2 n3 hzz
        have ne_Z : w5.heap.size ≠ w.heap.size + 1 + 1 := by omega
        have ne_D : w3.heap.size ≠ w.heap.size + 1 + 1 := by omega
        go_cut [7] (fun p wx => p = .int .i64 (rE (sg false (sz a * d - sz c * b)) (b * d)) ∧ Blk2 wx (w.heap.size + 1 + 1) (rN (sg false (sz a * d - sz c * b)) (b * d)) (rD (sg false (sz a * d - sz c * b)) (b * d)) ∧ Below w.heap.size w wx)
        case first =>
          refine wp_region_held_drew (S := fun w' => w'.cell? ⟨w5.heap.size, 0, none⟩ = some (.int .u64 0) ∧ w'.cell? ⟨w5.heap.size, 1, none⟩ = some (.int .u64 0) ∧ w'.cell? ⟨w5.heap.size, 2, none⟩ = some (.int .u64 0) ∧ w'.cell? ⟨w5.heap.size, 3, none⟩ = some (.int .u64 0) ∧ w'.cell? ⟨w3.heap.size, 0, none⟩ = some (.int .u64 (g0 (b * d))) ∧ w'.cell? ⟨w3.heap.size, 1, none⟩ = some (.int .u64 (g1 (b * d))) ∧ w'.cell? ⟨w3.heap.size, 2, none⟩ = some (.int .u64 (g2 (b * d))) ∧ w'.cell? ⟨w3.heap.size, 3, none⟩ = some (.int .u64 (g3 (b * d)))) (by kernel_rfl) ?_ (fun hHeld => ?_)
          · exact ⟨bcl (n := W5.heap.size) (by go_grown) Z_0 (by simp; try omega), bcl (n := W5.heap.size) (by go_grown) Z_1 (by simp; try omega), bcl (n := W5.heap.size) (by go_grown) Z_2 (by simp; try omega), bcl (n := W5.heap.size) (by go_grown) Z_3 (by simp; try omega), bcl (n := W5.heap.size) (by go_grown) D_0 (by simp; try omega), bcl (n := W5.heap.size) (by go_grown) D_1 (by simp; try omega), bcl (n := W5.heap.size) (by go_grown) D_2 (by simp; try omega), bcl (n := W5.heap.size) (by go_grown) D_3 (by simp; try omega)⟩
          refine wpAnyH_take (i := 0) (oi := ({ dst := some 71, op := Op.move (Operand.tmp 11), type := 4, pos := "ref.go:168", after := #[], guard := none } : Oper)) (v := ?yv200) rfl (by kernel_rfl) (by kernel_rfl) (by kernel_rfl) (fun _ _ _ h => h) (Or.inl ⟨by rfl, ?yh200⟩) (by assumption) ?yr200
          case yh200 => (intro wq hSw; (try dsimp only at hSw); go_simp; first | done | with_reducible rfl)
          simp only [Act.put, List.setIfInBounds_toArray, List.set_cons_zero, List.set_cons_succ]
          refine wpAnyH_take (i := 1) (oi := ({ dst := some 72, op := Op.move (Operand.tmp 71), type := 4, pos := "ref.go:168", after := #[{ on := 0, ground := Ground.data }], guard := none } : Oper)) (v := ?yv201) rfl (by kernel_rfl) (by kernel_rfl) (by kernel_rfl) (fun _ _ _ h => h) (Or.inl ⟨by rfl, ?yh201⟩) (by assumption) ?yr201
          case yh201 => (intro wq hSw; (try dsimp only at hSw); go_simp; first | done | with_reducible rfl)
          simp only [Act.put, List.setIfInBounds_toArray, List.set_cons_zero, List.set_cons_succ]
          refine wpAnyH_take (i := 2) (oi := ({ dst := some 73, op := Op.load 70 (Operand.tmp 15), type := 70, pos := "ref.go:168", after := #[{ on := 1, ground := Ground.guard }], guard := some (1, true) } : Oper)) (v := ?yv202) rfl (by kernel_rfl) (by kernel_rfl) (by kernel_rfl) (fun _ _ _ h => h) (Or.inl ⟨by rfl, ?yh202⟩) (by assumption) ?yr202
          case yh202 => (intro wq hSw; (try dsimp only at hSw); go_simp; first | done | with_reducible rfl)
          simp only [Act.put, List.setIfInBounds_toArray, List.set_cons_zero, List.set_cons_succ]
          refine wpAnyH_take (i := 3) (oi := ({ dst := some 74, op := Op.build 70 #[], type := 70, pos := "ref.go:168", after := #[{ on := 1, ground := Ground.guard }], guard := some (1, true) } : Oper)) (v := ?yv203) rfl (by kernel_rfl) (by kernel_rfl) (by kernel_rfl) (fun _ _ _ h => h) (Or.inl ⟨by rfl, ?yh203⟩) (by assumption) ?yr203
          case yh203 => (intro wq hSw; (try dsimp only at hSw); go_simp; first | done | with_reducible rfl)
          simp only [Act.put, List.setIfInBounds_toArray, List.set_cons_zero, List.set_cons_succ]
          refine wpAnyH_take (i := 4) (oi := ({ dst := some 75, op := Op.binOp BinOp.neq 70 (Operand.tmp 73) (Operand.tmp 74) 70, type := 4, pos := "ref.go:168", after := #[{ on := 2, ground := Ground.data }, { on := 3, ground := Ground.data }, { on := 1, ground := Ground.guard }], guard := some (1, true) } : Oper)) (v := ?yv204) rfl (by kernel_rfl) (by kernel_rfl) (by kernel_rfl) (fun _ _ _ h => h) (Or.inl ⟨by rfl, ?yh204⟩) (by assumption) ?yr204
          case yh204 => (intro wq hSw; (try dsimp only at hSw); go_simp; first | done | with_reducible rfl)
          simp only [Act.put, List.setIfInBounds_toArray, List.set_cons_zero, List.set_cons_succ]
          refine wpAnyH_take (i := 5) (oi := ({ dst := some 76, op := Op.pick (Operand.tmp 72) (Operand.tmp 75) (Operand.const (Value.bool false)), type := 4, pos := "ref.go:168", after := #[{ on := 1, ground := Ground.data }, { on := 4, ground := Ground.data }], guard := none } : Oper)) (v := ?yv205) rfl (by kernel_rfl) (by kernel_rfl) (by kernel_rfl) (fun _ _ _ h => h) (Or.inl ⟨by rfl, ?yh205⟩) (by assumption) ?yr205
          case yh205 => (intro wq hSw; (try dsimp only at hSw); go_simp; first | done | with_reducible rfl)
          simp only [Act.put, List.setIfInBounds_toArray, List.set_cons_zero, List.set_cons_succ]
          refine wpAnyH_take (i := 6) (oi := ({ dst := some 77, op := Op.load 70 (Operand.tmp 15), type := 70, pos := "ref.go:168", after := #[], guard := none } : Oper)) (v := ?yv206) rfl (by kernel_rfl) (by kernel_rfl) (by kernel_rfl) (fun _ _ _ h => h) (Or.inl ⟨by rfl, ?yh206⟩) (by assumption) ?yr206
          case yh206 => (intro wq hSw; (try dsimp only at hSw); go_simp; first | done | with_reducible rfl)
          simp only [Act.put, List.setIfInBounds_toArray, List.set_cons_zero, List.set_cons_succ]
          refine wpAnyH_take (i := 7) (oi := ({ dst := some 78, op := Op.load 70 (Operand.tmp 10), type := 70, pos := "ref.go:168", after := #[], guard := none } : Oper)) (v := ?yv207) rfl (by kernel_rfl) (by kernel_rfl) (by kernel_rfl) (fun _ _ _ h => h) (Or.inl ⟨by rfl, ?yh207⟩) (by assumption) ?yr207
          case yh207 => (intro wq hSw; (try dsimp only at hSw); go_simp; first | done | with_reducible rfl)
          simp only [Act.put, List.setIfInBounds_toArray, List.set_cons_zero, List.set_cons_succ]
          refine wpAnyH_ready (rs := [8]) (by kernel_rfl) (by simp) ?_
          refine AllReadyH.cons (o := ({ dst := some 79, op := Op.call { callee := Callee.value (Operand.func 54), args := #[Operand.tmp 76, Operand.tmp 77, Operand.tmp 78], argTypes := #[4, 70, 70] }, type := 53, pos := "ref.go:168", after := #[{ on := 5, ground := Ground.data }, { on := 6, ground := Ground.data }, { on := 7, ground := Ground.data }, { on := 1, ground := Ground.chain }], guard := none } : Oper)) rfl (fun K hK => ?_) AllReadyH.nil
          go_simp
          go_at_call 54; refine (HM.out _).mono ?_; rintro e w1 ⟨rfl, hb1⟩; obtain ⟨hc1, hf1, hz1, hB1, hn1, hm1⟩ := bg (n := W5.heap.size) (W0 := W5) (by go_grown) (by go_size) hb1; have z_R := hm1 _ l_R; have R0' := bcl hB1 R_0 l_R; have R1' := bcl hB1 R_1 l_R; have R2' := bfr hB1 R_2 l_R; have R3' := bfr hB1 R_3 l_R; clear hm1 hc1 hf1
          (try go_wp2_with fail)
          refine hK.out _ _ ?_ (fun hHeld => ?_)
          · exact ⟨bcl (n := W5.heap.size) (by go_grown) Z_0 (by simp; try omega), bcl (n := W5.heap.size) (by go_grown) Z_1 (by simp; try omega), bcl (n := W5.heap.size) (by go_grown) Z_2 (by simp; try omega), bcl (n := W5.heap.size) (by go_grown) Z_3 (by simp; try omega), bcl (n := W5.heap.size) (by go_grown) D_0 (by simp; try omega), bcl (n := W5.heap.size) (by go_grown) D_1 (by simp; try omega), bcl (n := W5.heap.size) (by go_grown) D_2 (by simp; try omega), bcl (n := W5.heap.size) (by go_grown) D_3 (by simp; try omega)⟩
          clear hK K
          try simp only [Act.put, List.setIfInBounds_toArray, List.set_cons_zero, List.set_cons_succ]
          refine wpAnyH_take (i := 9) (oi := ({ dst := some 80, op := Op.extract (Operand.tmp 79) 0, type := 45, pos := "ref.go:168", after := #[{ on := 8, ground := Ground.data }], guard := none } : Oper)) (v := ?yv209) rfl (by kernel_rfl) (by kernel_rfl) (by kernel_rfl) (fun _ _ _ h => h) (Or.inl ⟨by rfl, ?yh209⟩) (by assumption) ?yr209
          case yh209 => (intro wq hSw; (try dsimp only at hSw); go_simp; first | done | with_reducible rfl)
          simp only [Act.put, List.setIfInBounds_toArray, List.set_cons_zero, List.set_cons_succ]
          refine wpAnyH_take (i := 10) (oi := ({ dst := some 81, op := Op.extract (Operand.tmp 79) 1, type := 24, pos := "ref.go:168", after := #[{ on := 8, ground := Ground.data }], guard := none } : Oper)) (v := ?yv210) rfl (by kernel_rfl) (by kernel_rfl) (by kernel_rfl) (fun _ _ _ h => h) (Or.inl ⟨by rfl, ?yh210⟩) (by assumption) ?yr210
          case yh210 => (intro wq hSw; (try dsimp only at hSw); go_simp; first | done | with_reducible rfl)
          simp only [Act.put, List.setIfInBounds_toArray, List.set_cons_zero, List.set_cons_succ]
          refine wpAnyH_ready (rs := [11]) (by kernel_rfl) (by simp) ?_
          refine AllReadyH.cons (o := ({ dst := none, op := Op.store 45 (Operand.tmp 6) (Operand.tmp 80), type := 0, pos := "ref.go:168", after := #[{ on := 9, ground := Ground.data }, { on := 8, ground := Ground.chain }, { on := 0, ground := Ground.phase }, { on := 1, ground := Ground.phase }, { on := 2, ground := Ground.phase }, { on := 3, ground := Ground.phase }, { on := 4, ground := Ground.phase }, { on := 5, ground := Ground.phase }, { on := 6, ground := Ground.phase }, { on := 7, ground := Ground.phase }, { on := 8, ground := Ground.phase }, { on := 9, ground := Ground.phase }, { on := 10, ground := Ground.phase }], guard := none } : Oper)) rfl (fun K hK => ?_) AllReadyH.nil
          go_simp
          refine hK.out _ _ ?_ (fun hHeld => ?_)
          · exact ⟨kc2 hB1 Z_0 l_Z ne_Z, kc2 hB1 Z_1 l_Z ne_Z, kc2 hB1 Z_2 l_Z ne_Z, kc2 hB1 Z_3 l_Z ne_Z, kc2 hB1 D_0 l_D ne_D, kc2 hB1 D_1 l_D ne_D, kc2 hB1 D_2 l_D ne_D, kc2 hB1 D_3 l_D ne_D⟩
          clear hK K
          try simp only [Act.put, List.setIfInBounds_toArray, List.set_cons_zero, List.set_cons_succ]
          refine wpAnyH_take (i := 12) (oi := ({ dst := some 7, op := Op.assign (Operand.tmp 81), type := 24, pos := "ref.go:168", after := #[{ on := 10, ground := Ground.data }, { on := 11, ground := Ground.chain }, { on := 0, ground := Ground.phase }, { on := 1, ground := Ground.phase }, { on := 2, ground := Ground.phase }, { on := 3, ground := Ground.phase }, { on := 4, ground := Ground.phase }, { on := 5, ground := Ground.phase }, { on := 6, ground := Ground.phase }, { on := 7, ground := Ground.phase }, { on := 8, ground := Ground.phase }, { on := 9, ground := Ground.phase }, { on := 10, ground := Ground.phase }, { on := 11, ground := Ground.phase }], guard := none } : Oper)) (v := ?yv212) rfl (by kernel_rfl) (by kernel_rfl) (by kernel_rfl) (fun _ _ _ h => h) (Or.inl ⟨by rfl, ?yh212⟩) (by assumption) ?yr212
          case yh212 => (intro wq hSw; (try dsimp only at hSw); go_simp; first | done | with_reducible rfl)
          simp only [Act.put, List.setIfInBounds_toArray, List.set_cons_zero, List.set_cons_succ]
          refine wpAnyH_done (by kernel_rfl) ?_ _
          (try go_wp2)
          go_meet
          case rel =>
            have hBx : Below w.heap.size w w1 := hBW5.trans (hB1.mono hBW5.size)
            refine ⟨rfl, ?_, ?_⟩
            · first
                | exact (HR.out.below hB1 l_R).two _ _
                | exact ((HR.out.below hB1 l_R).two _ _).drewN _
                | (constructor <;> simp (maxDischargeDepth := 8) [go_sem, *])
            · exact (by repeat' (first | (with_reducible exact Below.refl _ _) | (with_reducible assumption) | (with_reducible refine bdrewN _ ?_) | (with_reducible refine Below.alloc ?_ ?_ _) | (with_reducible refine Below.setCell ?_ ?_ _) | (with_reducible refine Below.drew ?_) | go_size | (simp; omega)))
        case rest =>
          obtain ⟨rfl, b9, hB9⟩ := hcut
          obtain ⟨x0, x1, -, -⟩ := b9
          clear HM R_2 R_3 Z_0 Z_1 Z_2 Z_3 D_0 D_1 D_2 D_3 R_0 R_1 hBW5
          go_wp2
          refine bodyPost_ret (by simp [results, Tryz.results53, go_sem, x0, x1]; try rfl) rfl ?_
          exact ⟨rfl, hB9⟩
      · obtain ⟨cc, ecc⟩ : ∃ cc : Int, Hid (cmpI (sz a * d) (sz c * b) = cc) := ⟨_, rfl⟩
        have hcc : cc < 0 := by rw [← ecc.out]; unfold cmpI; split <;> (try split) <;> omega
        have hcf : (0 ≤ cc) = False := by simp; omega
        have HA : Hid (Blk2 W3 (w.heap.size) (a) (b)) := A
        have HB : Hid (Blk2 W3 (w.heap.size + 1) (c) (d)) := B
        have HR : Hid (Blk2 W3 (w.heap.size + 1 + 1) (0) (0)) := R
        have HX : Hid (Blk W3 (bX) (g0 (sz a * d)) (g1 (sz a * d)) (g2 (sz a * d)) (g3 (sz a * d))) := X
        have HY : Hid (Blk W3 (bY) (g0 (sz c * b)) (g1 (sz c * b)) (g2 (sz c * b)) (g3 (sz c * b))) := Y
        have HD : Hid (Blk W3 (w3.heap.size) (g0 (b * d)) (g1 (b * d)) (g2 (b * d)) (g3 (b * d))) := D
        clear A B R X Y D
        obtain ⟨X_0, X_1, X_2, X_3, -, -, -, -⟩ := HX.out
        obtain ⟨Y_0, Y_1, Y_2, Y_3, -, -, -, -⟩ := HY.out
        go_wp2_with fail
        refine (rcompare_any (sz a * d) (sz c * b) _ hX (by omega) hY (by omega)).mono ?_
        rintro e w4 ⟨rfl, hb4⟩
        clear X_0 X_1 X_2 X_3 Y_0 Y_1 Y_2 Y_3
        rw [ecc.out]
        go_upto_region 10 with fail
        refine wp_world ?_
        intro W4 hW4
        have st4 : Below W3.heap.size W3 W4 := by rw [hW4]; exact (by repeat' (first | (with_reducible exact Below.refl _ _) | (with_reducible assumption) | (with_reducible refine bdrewN _ ?_) | (with_reducible refine Below.alloc ?_ ?_ _) | (with_reducible refine Below.setCell ?_ ?_ _) | (with_reducible refine Below.drew ?_) | go_size | (simp; omega)))
        clear hW4 hb4
        have A : Blk2 W4 (w.heap.size) (a) (b) := HA.out.below st4 l_A
        have l_A : w.heap.size < W4.heap.size := Nat.lt_of_lt_of_le l_A st4.size
        have B : Blk2 W4 (w.heap.size + 1) (c) (d) := HB.out.below st4 l_B
        have l_B : w.heap.size + 1 < W4.heap.size := Nat.lt_of_lt_of_le l_B st4.size
        have R : Blk2 W4 (w.heap.size + 1 + 1) (0) (0) := HR.out.below st4 l_R
        have l_R : w.heap.size + 1 + 1 < W4.heap.size := Nat.lt_of_lt_of_le l_R st4.size
        have X : Blk W4 (bX) (g0 (sz a * d)) (g1 (sz a * d)) (g2 (sz a * d)) (g3 (sz a * d)) := HX.out.below st4 l_X
        have l_X : bX < W4.heap.size := Nat.lt_of_lt_of_le l_X st4.size
        have Y : Blk W4 (bY) (g0 (sz c * b)) (g1 (sz c * b)) (g2 (sz c * b)) (g3 (sz c * b)) := HY.out.below st4 l_Y
        have l_Y : bY < W4.heap.size := Nat.lt_of_lt_of_le l_Y st4.size
        have D : Blk W4 (w3.heap.size) (g0 (b * d)) (g1 (b * d)) (g2 (b * d)) (g3 (b * d)) := HD.out.below st4 l_D
        have l_D : w3.heap.size < W4.heap.size := Nat.lt_of_lt_of_le l_D st4.size
        have hBW4 : Below w.heap.size w W4 := hBW3.trans (st4.mono hBW3.size)
        clear hBW3 st4 HA HB HR HX HY HD
        have HA : Hid (Blk2 W4 (w.heap.size) (a) (b)) := A
        have HB : Hid (Blk2 W4 (w.heap.size + 1) (c) (d)) := B
        have HR : Hid (Blk2 W4 (w.heap.size + 1 + 1) (0) (0)) := R
        have HX : Hid (Blk W4 (bX) (g0 (sz a * d)) (g1 (sz a * d)) (g2 (sz a * d)) (g3 (sz a * d))) := X
        have HY : Hid (Blk W4 (bY) (g0 (sz c * b)) (g1 (sz c * b)) (g2 (sz c * b)) (g3 (sz c * b))) := Y
        have HD : Hid (Blk W4 (w3.heap.size) (g0 (b * d)) (g1 (b * d)) (g2 (b * d)) (g3 (b * d))) := D
        clear A B R X Y D
        obtain ⟨X_0, X_1, X_2, X_3, -, -, -, -⟩ := HX.out
        obtain ⟨Y_0, Y_1, Y_2, Y_3, -, -, -, -⟩ := HY.out
        go_wp2_with fail
        refine (rless_any (sz c * b) (sz a * d) _ hX (by omega) (by omega)).mono ?_
        rintro e w5 ⟨rfl, hb5⟩
        have hz5 := hb5.size
        clear X_0 X_1 X_2 X_3 Y_0 Y_1 Y_2 Y_3
        go_upto_region 14 with fail
        refine wp_world ?_
        intro W5 hW5
        have st5 : Below W4.heap.size W4 W5 := by rw [hW5]; exact (by repeat' (first | (with_reducible exact Below.refl _ _) | (with_reducible assumption) | (with_reducible refine bdrewN _ ?_) | (with_reducible refine Below.alloc ?_ ?_ _) | (with_reducible refine Below.setCell ?_ ?_ _) | (with_reducible refine Below.drew ?_) | go_size | (simp; omega)))
        have Z : Blk W5 (w5.heap.size) (g0 (sz c * b - sz a * d)) (g1 (sz c * b - sz a * d)) (g2 (sz c * b - sz a * d)) (g3 (sz c * b - sz a * d)) := by rw [hW5]; constructor <;> simp (maxDischargeDepth := 12) [go_sem]
        have l_Z : w5.heap.size < W5.heap.size := by rw [hW5]; simp
        clear hW5
        have A : Blk2 W5 (w.heap.size) (a) (b) := HA.out.below st5 l_A
        have l_A : w.heap.size < W5.heap.size := Nat.lt_of_lt_of_le l_A st5.size
        have B : Blk2 W5 (w.heap.size + 1) (c) (d) := HB.out.below st5 l_B
        have l_B : w.heap.size + 1 < W5.heap.size := Nat.lt_of_lt_of_le l_B st5.size
        have R : Blk2 W5 (w.heap.size + 1 + 1) (0) (0) := HR.out.below st5 l_R
        have l_R : w.heap.size + 1 + 1 < W5.heap.size := Nat.lt_of_lt_of_le l_R st5.size
        have X : Blk W5 (bX) (g0 (sz a * d)) (g1 (sz a * d)) (g2 (sz a * d)) (g3 (sz a * d)) := HX.out.below st5 l_X
        have l_X : bX < W5.heap.size := Nat.lt_of_lt_of_le l_X st5.size
        have Y : Blk W5 (bY) (g0 (sz c * b)) (g1 (sz c * b)) (g2 (sz c * b)) (g3 (sz c * b)) := HY.out.below st5 l_Y
        have l_Y : bY < W5.heap.size := Nat.lt_of_lt_of_le l_Y st5.size
        have D : Blk W5 (w3.heap.size) (g0 (b * d)) (g1 (b * d)) (g2 (b * d)) (g3 (b * d)) := HD.out.below st5 l_D
        have l_D : w3.heap.size < W5.heap.size := Nat.lt_of_lt_of_le l_D st5.size
        have hBW5 : Below w.heap.size w W5 := hBW4.trans (st5.mono hBW4.size)
        clear hBW4 st5 HA HB HR HX HY HD
        have HA : Hid (Blk2 W5 (w.heap.size) (a) (b)) := A
        have HB : Hid (Blk2 W5 (w.heap.size + 1) (c) (d)) := B
        have HR : Hid (Blk2 W5 (w.heap.size + 1 + 1) (0) (0)) := R
        have HX : Hid (Blk W5 (bX) (g0 (sz a * d)) (g1 (sz a * d)) (g2 (sz a * d)) (g3 (sz a * d))) := X
        have HY : Hid (Blk W5 (bY) (g0 (sz c * b)) (g1 (sz c * b)) (g2 (sz c * b)) (g3 (sz c * b))) := Y
        have HD : Hid (Blk W5 (w3.heap.size) (g0 (b * d)) (g1 (b * d)) (g2 (b * d)) (g3 (b * d))) := D
        have HZ : Hid (Blk W5 (w5.heap.size) (g0 (sz c * b - sz a * d)) (g1 (sz c * b - sz a * d)) (g2 (sz c * b - sz a * d)) (g3 (sz c * b - sz a * d))) := Z
        clear A B R X Y D Z
        obtain ⟨Z_0, Z_1, Z_2, Z_3, -, -, -, -⟩ := HZ.out
        obtain ⟨D_0, D_1, D_2, D_3, -, -, -, -⟩ := HD.out
        obtain ⟨R_0, R_1, -, -⟩ := HR.out
        have R_2 := HR.out.f0
        have R_3 := HR.out.f1
        have ne_Z : w5.heap.size ≠ w.heap.size + 1 + 1 := by omega
        have ne_D : w3.heap.size ≠ w.heap.size + 1 + 1 := by omega
        go_cut [7] (fun p wx => p = .int .i64 (rE (sg false (sz c * b - sz a * d)) (b * d)) ∧ Blk2 wx (w.heap.size + 1 + 1) (rN (sg false (sz c * b - sz a * d)) (b * d)) (rD (sg false (sz c * b - sz a * d)) (b * d)) ∧ Below w.heap.size w wx)
        case first =>
          go_wp2_with (first
                | (go_at_call 54; refine (HM.out _).mono ?_; rintro e w1 ⟨rfl, hb1⟩; obtain ⟨hc1, hf1, hz1, hB1, hn1, hm1⟩ := bg (n := W5.heap.size) (W0 := W5) (by go_grown) (by go_size) hb1; have z_R := hm1 _ l_R; have R0' := bcl hB1 R_0 l_R; have R1' := bcl hB1 R_1 l_R; have R2' := bfr hB1 R_2 l_R; have R3' := bfr hB1 R_3 l_R; clear hm1 hc1 hf1))
          (try go_wp2)
          go_meet
          case rel =>
            have hBx : Below w.heap.size w w1 := hBW5.trans (hB1.mono hBW5.size)
            refine ⟨rfl, ?_, ?_⟩
            · first
                | exact (HR.out.below hB1 l_R).two _ _
                | exact ((HR.out.below hB1 l_R).two _ _).drewN _
                | (constructor <;> simp (maxDischargeDepth := 8) [go_sem, *])
            · exact (by repeat' (first | (with_reducible exact Below.refl _ _) | (with_reducible assumption) | (with_reducible refine bdrewN _ ?_) | (with_reducible refine Below.alloc ?_ ?_ _) | (with_reducible refine Below.setCell ?_ ?_ _) | (with_reducible refine Below.drew ?_) | go_size | (simp; omega)))
        case rest =>
          obtain ⟨rfl, b9, hB9⟩ := hcut
          obtain ⟨x0, x1, -, -⟩ := b9
          clear HM R_2 R_3 Z_0 Z_1 Z_2 Z_3 D_0 D_1 D_2 D_3 R_0 R_1 hBW5
          go_wp2
          refine bodyPost_ret (by simp [results, Tryz.results53, go_sem, x0, x1]; try rfl) rfl ?_
          exact ⟨rfl, hB9⟩

end Go.Proofs.YtedoahibceeklaaGreatDoor
