/- The document's Compare. -/
import Derived.Test.YtedoahibceeklaaGreatDoorRef1
import Derived.Test.YtedoahibceeklaaGreatDoorPub
import Derived.Deep.DeepCutAuto
namespace Go.Proofs.YtedoahibceeklaaGreatDoor
open Go.RowKit

set_option maxRecDepth 100000 in
set_option maxHeartbeats 4000000 in
theorem rcmp_raw (a b c d r : Int) (w : World) (ha : -9223372036854775808 ≤ a) (ha' : a ≤ 9223372036854775807) (hb : -9223372036854775808 ≤ b) (hb' : b ≤ 9223372036854775807) (hc : -9223372036854775808 ≤ c) (hc' : c ≤ 9223372036854775807) (hd : -9223372036854775808 ≤ d) (hd' : d ≤ 9223372036854775807) (m1 : mayB a b = true) (m2 : mayB c d = true) (pb : 0 < b) (pd : 0 < d) (za : 0 ≤ sz a) (za' : sz a ≤ 9223372036854775808) (zc : 0 ≤ sz c) (zc' : sz c ≤ 9223372036854775808)
    (hP : 0 ≤ sz a * d) (hP' : sz a * d < 340282366920938463463374607431768211456) (hQ : 0 ≤ sz c * b) (hQ' : sz c * b < 340282366920938463463374607431768211456)
    (hcase : (a < 0 ∧ 0 ≤ c ∧ r = -1) ∨ (0 ≤ a ∧ c < 0 ∧ r = 1) ∨ (a < 0 ∧ c < 0 ∧ r = cmpI (sz c * b) (sz a * d)) ∨ (0 ≤ a ∧ 0 ≤ c ∧ r = cmpI (sz a * d) (sz c * b))) :
    Calls Tryz.prog 32 #[.agg #[.int .i64 a, .int .i64 b], .agg #[.int .i64 c, .int .i64 d]] w fun e w' => e = .returned (.int .i64 r) ∧ Below w.heap.size w w' := by
  have ub : IntKind.u64.wrap b = b := by rw [IntKind.wrap_u64]; omega
  have ud : IntKind.u64.wrap d = d := by rw [IntKind.wrap_u64]; omega
  go_enter Tryz.func32, Tryz.ntmps32
  go_upto_region 1 with fail
  refine wp_world ?_
  intro W0 hW0
  have A : Blk2 W0 (w.heap.size) (a) (b) := by rw [hW0]; constructor <;> simp (maxDischargeDepth := 12) [go_sem]
  have l_A : w.heap.size < W0.heap.size := by rw [hW0]; first | (simp; done) | (simp; omega)
  have B : Blk2 W0 (w.heap.size + 1) (c) (d) := by rw [hW0]; constructor <;> simp (maxDischargeDepth := 12) [go_sem]
  have l_B : w.heap.size + 1 < W0.heap.size := by rw [hW0]; first | (simp; done) | (simp; omega)
  have hB0 : Below w.heap.size w W0 := by rw [hW0]; exact (by repeat' (first | (with_reducible exact Below.refl _ _) | (with_reducible assumption) | (with_reducible refine bdrewN _ ?_) | (with_reducible refine Below.alloc ?_ ?_ _) | (with_reducible refine Below.setCell ?_ ?_ _) | (with_reducible refine Below.drew ?_) | go_size | (simp; omega)))
  clear hW0
  have HA : Hid (Blk2 W0 (w.heap.size) (a) (b)) := A
  have HB : Hid (Blk2 W0 (w.heap.size + 1) (c) (d)) := B
  clear A B
  obtain ⟨A_0, A_1, -, -⟩ := HA.out
  go_wp2_with fail
  refine (rmay_any a b _ ha ha' hb hb').mono ?_
  rintro e w1 ⟨rfl, hb1⟩
  clear A_0 A_1
  rw [m1]
  go_upto_region 2 with fail
  refine wp_world ?_
  intro W1 hW1
  have st1 : Below W0.heap.size W0 W1 := by rw [hW1]; exact (by repeat' (first | (with_reducible exact Below.refl _ _) | (with_reducible assumption) | (with_reducible refine bdrewN _ ?_) | (with_reducible refine Below.alloc ?_ ?_ _) | (with_reducible refine Below.setCell ?_ ?_ _) | (with_reducible refine Below.drew ?_) | go_size | (simp; omega)))
  clear hW1 hb1
  have A : Blk2 W1 (w.heap.size) (a) (b) := HA.out.below st1 l_A
  have l_A : w.heap.size < W1.heap.size := Nat.lt_of_lt_of_le l_A st1.size
  have B : Blk2 W1 (w.heap.size + 1) (c) (d) := HB.out.below st1 l_B
  have l_B : w.heap.size + 1 < W1.heap.size := Nat.lt_of_lt_of_le l_B st1.size
  have hBW1 : Below w.heap.size w W1 := hB0.trans (st1.mono hB0.size)
  clear hB0 st1 HA HB
  have HA : Hid (Blk2 W1 (w.heap.size) (a) (b)) := A
  have HB : Hid (Blk2 W1 (w.heap.size + 1) (c) (d)) := B
  clear A B
  obtain ⟨B_0, B_1, -, -⟩ := HB.out
  go_wp2_with fail
  refine (rmay_any c d _ hc hc' hd hd').mono ?_
  rintro e w2 ⟨rfl, hb2⟩
  clear B_0 B_1
  rw [m2]
  go_upto_region 5 with fail
  refine wp_world ?_
  intro W2 hW2
  have st2 : Below W1.heap.size W1 W2 := by rw [hW2]; exact (by repeat' (first | (with_reducible exact Below.refl _ _) | (with_reducible assumption) | (with_reducible refine bdrewN _ ?_) | (with_reducible refine Below.alloc ?_ ?_ _) | (with_reducible refine Below.setCell ?_ ?_ _) | (with_reducible refine Below.drew ?_) | go_size | (simp; omega)))
  clear hW2 hb2
  have A : Blk2 W2 (w.heap.size) (a) (b) := HA.out.below st2 l_A
  have l_A : w.heap.size < W2.heap.size := Nat.lt_of_lt_of_le l_A st2.size
  have B : Blk2 W2 (w.heap.size + 1) (c) (d) := HB.out.below st2 l_B
  have l_B : w.heap.size + 1 < W2.heap.size := Nat.lt_of_lt_of_le l_B st2.size
  have hBW2 : Below w.heap.size w W2 := hBW1.trans (st2.mono hBW1.size)
  clear hBW1 st2 HA HB
  have HA : Hid (Blk2 W2 (w.heap.size) (a) (b)) := A
  have HB : Hid (Blk2 W2 (w.heap.size + 1) (c) (d)) := B
  clear A B
  obtain ⟨A_0, A_1, -, -⟩ := HA.out
  obtain ⟨B_0, B_1, -, -⟩ := HB.out
  go_cut [7] (fun p wx => ∃ bn : Nat, p = .pointer (some ⟨bn, 0, none⟩) ∧ W2.heap.size ≤ bn ∧ bn < wx.heap.size ∧ Blk wx bn (g0 (sz a * d)) (g1 (sz a * d)) (g2 (sz a * d)) (g3 (sz a * d)) ∧ Below W2.heap.size W2 wx)
  case first =>
    go_region_held3 (fun w' => w'.cell? ⟨w.heap.size, 0, none⟩ = some (.int .i64 (a)) ∧ w'.cell? ⟨w.heap.size, 1, none⟩ = some (.int .i64 (b)) ∧ w'.cell? ⟨w.heap.size + 1, 0, none⟩ = some (.int .i64 (c)) ∧ w'.cell? ⟨w.heap.size + 1, 1, none⟩ = some (.int .i64 (d))) (exact ⟨bcl (n := W2.heap.size) (by go_grown) A_0 (by simp; try omega), bcl (n := W2.heap.size) (by go_grown) A_1 (by simp; try omega), bcl (n := W2.heap.size) (by go_grown) B_0 (by simp; try omega), bcl (n := W2.heap.size) (by go_grown) B_1 (by simp; try omega)⟩)
      (first
        | (go_at_call 47; refine (rsize_any _ _ (by omega) (by omega)).mono ?_; rintro e w' ⟨rfl, rfl⟩)
        | (go_at_call 46; refine (rtimes_any _ _ _ (by omega) (by omega) (by omega) (by omega)).mono ?_; rintro e w1 ⟨rfl, hb1⟩; obtain ⟨hc1, hf1, hz1, hB1, hn1, hm1⟩ := bg (n := W2.heap.size) (W0 := W2) (by go_grown) (by go_size) hb1; have z_A := hm1 (w.heap.size) l_A; have z_B := hm1 (w.heap.size + 1) l_B; clear hm1))
    all_goals
      go_wp2
      go_meet
      case rel =>
        refine ⟨_, rfl, ?_, ?_, ?_, ?_⟩
        · first | go_size | (simp; omega)
        · first | omega | (simp; done) | (simp; omega) | simp (maxDischargeDepth := 8) [go_sem, *]
        · constructor <;> simp (maxDischargeDepth := 8) [go_sem, *]
        · exact (by repeat' (first | (with_reducible exact Below.refl _ _) | (with_reducible assumption) | (with_reducible refine bdrewN _ ?_) | (with_reducible refine Below.alloc ?_ ?_ _) | (with_reducible refine Below.setCell ?_ ?_ _) | (with_reducible refine Below.drew ?_) | go_size | (simp; omega)))
  case rest =>
    obtain ⟨bP, rfl, n_P, l_P, P, st3⟩ := hcut
    clear A_0 A_1 B_0 B_1
    obtain ⟨V3, eV3⟩ : ∃ V3 : World, V3 = wc := ⟨_, rfl⟩
    rw [← eV3] at l_P P st3 ⊢
    clear eV3 wc
    have A : Blk2 V3 (w.heap.size) (a) (b) := HA.out.below st3 l_A
    have l_A : w.heap.size < V3.heap.size := Nat.lt_of_lt_of_le l_A st3.size
    have B : Blk2 V3 (w.heap.size + 1) (c) (d) := HB.out.below st3 l_B
    have l_B : w.heap.size + 1 < V3.heap.size := Nat.lt_of_lt_of_le l_B st3.size
    have hBV3 : Below w.heap.size w V3 := hBW2.trans (st3.mono hBW2.size)
    clear hBW2 st3 HA HB
    go_upto_region 6 with fail
    have HA : Hid (Blk2 V3 (w.heap.size) (a) (b)) := A
    have HB : Hid (Blk2 V3 (w.heap.size + 1) (c) (d)) := B
    have HP : Hid (Blk V3 (bP) (g0 (sz a * d)) (g1 (sz a * d)) (g2 (sz a * d)) (g3 (sz a * d))) := P
    clear A B P
    obtain ⟨A_0, A_1, -, -⟩ := HA.out
    obtain ⟨B_0, B_1, -, -⟩ := HB.out
    go_cut [8] (fun p wx => ∃ bn : Nat, p = .pointer (some ⟨bn, 0, none⟩) ∧ V3.heap.size ≤ bn ∧ bn < wx.heap.size ∧ Blk wx bn (g0 (sz c * b)) (g1 (sz c * b)) (g2 (sz c * b)) (g3 (sz c * b)) ∧ Below V3.heap.size V3 wx)
    case first =>
      go_region_held3 (fun w' => w'.cell? ⟨w.heap.size, 0, none⟩ = some (.int .i64 (a)) ∧ w'.cell? ⟨w.heap.size, 1, none⟩ = some (.int .i64 (b)) ∧ w'.cell? ⟨w.heap.size + 1, 0, none⟩ = some (.int .i64 (c)) ∧ w'.cell? ⟨w.heap.size + 1, 1, none⟩ = some (.int .i64 (d))) (exact ⟨bcl (n := V3.heap.size) (by go_grown) A_0 (by simp; try omega), bcl (n := V3.heap.size) (by go_grown) A_1 (by simp; try omega), bcl (n := V3.heap.size) (by go_grown) B_0 (by simp; try omega), bcl (n := V3.heap.size) (by go_grown) B_1 (by simp; try omega)⟩)
        (first
          | (go_at_call 47; refine (rsize_any _ _ (by omega) (by omega)).mono ?_; rintro e w' ⟨rfl, rfl⟩)
          | (go_at_call 46; refine (rtimes_any _ _ _ (by omega) (by omega) (by omega) (by omega)).mono ?_; rintro e w1 ⟨rfl, hb1⟩; obtain ⟨hc1, hf1, hz1, hB1, hn1, hm1⟩ := bg (n := V3.heap.size) (W0 := V3) (by go_grown) (by go_size) hb1; have z_A := hm1 (w.heap.size) l_A; have z_B := hm1 (w.heap.size + 1) l_B; clear hm1))
      all_goals
        go_wp2
        go_meet
        case rel =>
          refine ⟨_, rfl, ?_, ?_, ?_, ?_⟩
          · first | go_size | (simp; omega)
          · first | omega | (simp; done) | (simp; omega) | simp (maxDischargeDepth := 8) [go_sem, *]
          · constructor <;> simp (maxDischargeDepth := 8) [go_sem, *]
          · exact (by repeat' (first | (with_reducible exact Below.refl _ _) | (with_reducible assumption) | (with_reducible refine bdrewN _ ?_) | (with_reducible refine Below.alloc ?_ ?_ _) | (with_reducible refine Below.setCell ?_ ?_ _) | (with_reducible refine Below.drew ?_) | go_size | (simp; omega)))
    case rest =>
      obtain ⟨bQ, rfl, n_Q, l_Q, Q, st4⟩ := hcut
      clear A_0 A_1 B_0 B_1
      obtain ⟨V4, eV4⟩ : ∃ V4 : World, V4 = wc := ⟨_, rfl⟩
      rw [← eV4] at l_Q Q st4 ⊢
      clear eV4 wc
      have A : Blk2 V4 (w.heap.size) (a) (b) := HA.out.below st4 l_A
      have l_A : w.heap.size < V4.heap.size := Nat.lt_of_lt_of_le l_A st4.size
      have B : Blk2 V4 (w.heap.size + 1) (c) (d) := HB.out.below st4 l_B
      have l_B : w.heap.size + 1 < V4.heap.size := Nat.lt_of_lt_of_le l_B st4.size
      have P : Blk V4 (bP) (g0 (sz a * d)) (g1 (sz a * d)) (g2 (sz a * d)) (g3 (sz a * d)) := HP.out.below st4 l_P
      have l_P : bP < V4.heap.size := Nat.lt_of_lt_of_le l_P st4.size
      have hBV4 : Below w.heap.size w V4 := hBV3.trans (st4.mono hBV3.size)
      clear hBV3 st4 HA HB HP
      go_upto_region 7 with fail
      have HA : Hid (Blk2 V4 (w.heap.size) (a) (b)) := A
      have HB : Hid (Blk2 V4 (w.heap.size + 1) (c) (d)) := B
      have HP : Hid (Blk V4 (bP) (g0 (sz a * d)) (g1 (sz a * d)) (g2 (sz a * d)) (g3 (sz a * d))) := P
      have HQ : Hid (Blk V4 (bQ) (g0 (sz c * b)) (g1 (sz c * b)) (g2 (sz c * b)) (g3 (sz c * b))) := Q
      clear A B P Q
      obtain ⟨A_0, A_1, -, -⟩ := HA.out
      obtain ⟨B_0, B_1, -, -⟩ := HB.out
      obtain ⟨P_0, P_1, P_2, P_3, -, -, -, -⟩ := HP.out
      obtain ⟨Q_0, Q_1, Q_2, Q_3, -, -, -, -⟩ := HQ.out
      rcases hcase with ⟨s1, s2, hr⟩ | ⟨s1, s2, hr⟩ | ⟨s1, s2, hr⟩ | ⟨s1, s2, hr⟩
      · have hr : Hid (r = _) := hr
        go_wp2
        go_ret
        exact ⟨ret_int hr.out.symm, (by repeat' (first | (with_reducible exact Below.refl _ _) | (with_reducible assumption) | (with_reducible refine bdrewN _ ?_) | (with_reducible refine Below.alloc ?_ ?_ _) | (with_reducible refine Below.setCell ?_ ?_ _) | (with_reducible refine Below.drew ?_) | go_size | (simp; omega)))⟩
      · have f1 : (a < 0) = False := by simp; omega
        have hr : Hid (r = _) := hr
        go_wp2
        go_ret
        exact ⟨ret_int hr.out.symm, (by repeat' (first | (with_reducible exact Below.refl _ _) | (with_reducible assumption) | (with_reducible refine bdrewN _ ?_) | (with_reducible refine Below.alloc ?_ ?_ _) | (with_reducible refine Below.setCell ?_ ?_ _) | (with_reducible refine Below.drew ?_) | go_size | (simp; omega)))⟩
      · have f1 : (0 ≤ c) = False := by simp; omega
        have f2 : (0 ≤ a) = False := by simp; omega
        have hr : Hid (r = _) := hr
        go_wp2_with fail
        refine (rcompare_any (sz c * b) (sz a * d) _ hQ hQ' hP hP').mono ?_
        rintro e w9 ⟨rfl, hb9⟩
        have hB9 := hBV4.trans (hb9.mono hBV4.size)
        go_wp2
        go_ret
        exact ⟨ret_int hr.out.symm, (by repeat' (first | (with_reducible exact Below.refl _ _) | (with_reducible assumption) | (with_reducible refine bdrewN _ ?_) | (with_reducible refine Below.alloc ?_ ?_ _) | (with_reducible refine Below.setCell ?_ ?_ _) | (with_reducible refine Below.drew ?_) | go_size | (simp; omega)))⟩
      · have f1 : (a < 0) = False := by simp; omega
        have f2 : (c < 0) = False := by simp; omega
        have hr : Hid (r = _) := hr
        go_wp2_with fail
        refine (rcompare_any (sz a * d) (sz c * b) _ hP hP' hQ hQ').mono ?_
        rintro e w9 ⟨rfl, hb9⟩
        have hB9 := hBV4.trans (hb9.mono hBV4.size)
        go_wp2
        go_ret
        exact ⟨ret_int hr.out.symm, (by repeat' (first | (with_reducible exact Below.refl _ _) | (with_reducible assumption) | (with_reducible refine bdrewN _ ?_) | (with_reducible refine Below.alloc ?_ ?_ _) | (with_reducible refine Below.setCell ?_ ?_ _) | (with_reducible refine Below.drew ?_) | go_size | (simp; omega)))⟩

theorem prod_le {x y : Int} (hx : 0 ≤ x) (hx' : x ≤ 9223372036854775808) (hy : 0 ≤ y) (hy' : y ≤ 9223372036854775808) : 0 ≤ x * y ∧ x * y ≤ 85070591730234615865843651857942052864 := by
  have h := mul_bd hx hx' hy hy'
  exact ⟨h.1, by omega⟩

set_option maxHeartbeats 400000 in
theorem rcmp_no1 (a b c d : Int) (w : World) (ha : -9223372036854775808 ≤ a) (ha' : a ≤ 9223372036854775807) (hb : -9223372036854775808 ≤ b) (hb' : b ≤ 9223372036854775807) (hc : -9223372036854775808 ≤ c) (hc' : c ≤ 9223372036854775807) (hd : -9223372036854775808 ≤ d) (hd' : d ≤ 9223372036854775807) (m1 : mayB a b = false) :
    Calls Tryz.prog 32 #[.agg #[.int .i64 a, .int .i64 b], .agg #[.int .i64 c, .int .i64 d]] w fun e w' => e = .returned (.int .i64 0) ∧ Below w.heap.size w w' := by
  go_enter Tryz.func32, Tryz.ntmps32
  go_upto_region 1 with fail
  refine wp_world ?_
  intro W0 hW0
  have A : Blk2 W0 (w.heap.size) (a) (b) := by rw [hW0]; constructor <;> simp (maxDischargeDepth := 12) [go_sem]
  have l_A : w.heap.size < W0.heap.size := by rw [hW0]; first | (simp; done) | (simp; omega)
  have B : Blk2 W0 (w.heap.size + 1) (c) (d) := by rw [hW0]; constructor <;> simp (maxDischargeDepth := 12) [go_sem]
  have l_B : w.heap.size + 1 < W0.heap.size := by rw [hW0]; first | (simp; done) | (simp; omega)
  have hB0 : Below w.heap.size w W0 := by rw [hW0]; exact (by repeat' (first | (with_reducible exact Below.refl _ _) | (with_reducible assumption) | (with_reducible refine bdrewN _ ?_) | (with_reducible refine Below.alloc ?_ ?_ _) | (with_reducible refine Below.setCell ?_ ?_ _) | (with_reducible refine Below.drew ?_) | go_size | (simp; omega)))
  clear hW0
  have HA : Hid (Blk2 W0 (w.heap.size) (a) (b)) := A
  have HB : Hid (Blk2 W0 (w.heap.size + 1) (c) (d)) := B
  clear A B
  obtain ⟨A_0, A_1, -, -⟩ := HA.out
  go_wp2_with fail
  refine (rmay_any a b _ ha ha' hb hb').mono ?_
  rintro e w1 ⟨rfl, hb1⟩
  rw [m1]
  have hs1 := hb1.size
  have b1 := HB.out.below hb1 l_B
  obtain ⟨x0, x1, -, -⟩ := b1
  go_wp2_with fail
  refine (rmay_any c d _ hc hc' hd hd').mono ?_
  rintro e w2 ⟨rfl, hb2⟩
  have hB2 : Below w.heap.size w w2 := (hB0.trans (hb1.mono hB0.size)).trans (hb2.mono (by have := hB0.size; omega))
  go_wp2
  go_ret
  exact ⟨rfl, hB2⟩
set_option maxHeartbeats 400000 in
theorem rcmp_no2 (a b c d : Int) (w : World) (ha : -9223372036854775808 ≤ a) (ha' : a ≤ 9223372036854775807) (hb : -9223372036854775808 ≤ b) (hb' : b ≤ 9223372036854775807) (hc : -9223372036854775808 ≤ c) (hc' : c ≤ 9223372036854775807) (hd : -9223372036854775808 ≤ d) (hd' : d ≤ 9223372036854775807) (m1 : mayB a b = true) (m2 : mayB c d = false) :
    Calls Tryz.prog 32 #[.agg #[.int .i64 a, .int .i64 b], .agg #[.int .i64 c, .int .i64 d]] w fun e w' => e = .returned (.int .i64 0) ∧ Below w.heap.size w w' := by
  go_enter Tryz.func32, Tryz.ntmps32
  go_upto_region 1 with fail
  refine wp_world ?_
  intro W0 hW0
  have A : Blk2 W0 (w.heap.size) (a) (b) := by rw [hW0]; constructor <;> simp (maxDischargeDepth := 12) [go_sem]
  have l_A : w.heap.size < W0.heap.size := by rw [hW0]; first | (simp; done) | (simp; omega)
  have B : Blk2 W0 (w.heap.size + 1) (c) (d) := by rw [hW0]; constructor <;> simp (maxDischargeDepth := 12) [go_sem]
  have l_B : w.heap.size + 1 < W0.heap.size := by rw [hW0]; first | (simp; done) | (simp; omega)
  have hB0 : Below w.heap.size w W0 := by rw [hW0]; exact (by repeat' (first | (with_reducible exact Below.refl _ _) | (with_reducible assumption) | (with_reducible refine bdrewN _ ?_) | (with_reducible refine Below.alloc ?_ ?_ _) | (with_reducible refine Below.setCell ?_ ?_ _) | (with_reducible refine Below.drew ?_) | go_size | (simp; omega)))
  clear hW0
  have HA : Hid (Blk2 W0 (w.heap.size) (a) (b)) := A
  have HB : Hid (Blk2 W0 (w.heap.size + 1) (c) (d)) := B
  clear A B
  obtain ⟨A_0, A_1, -, -⟩ := HA.out
  go_wp2_with fail
  refine (rmay_any a b _ ha ha' hb hb').mono ?_
  rintro e w1 ⟨rfl, hb1⟩
  rw [m1]
  have hs1 := hb1.size
  have b1 := HB.out.below hb1 l_B
  obtain ⟨x0, x1, -, -⟩ := b1
  go_wp2_with fail
  refine (rmay_any c d _ hc hc' hd hd').mono ?_
  rintro e w2 ⟨rfl, hb2⟩
  rw [m2]
  have hB2 : Below w.heap.size w w2 := (hB0.trans (hb1.mono hB0.size)).trans (hb2.mono (by have := hB0.size; omega))
  go_wp2
  go_ret
  exact ⟨rfl, hB2⟩
theorem rcmp_all (a b c d : Int) (w : World) (ha : -9223372036854775808 ≤ a) (ha' : a ≤ 9223372036854775807) (hb : -9223372036854775808 ≤ b) (hb' : b ≤ 9223372036854775807) (hc : -9223372036854775808 ≤ c) (hc' : c ≤ 9223372036854775807) (hd : -9223372036854775808 ≤ d) (hd' : d ≤ 9223372036854775807) :
    Calls Tryz.prog 32 #[.agg #[.int .i64 a, .int .i64 b], .agg #[.int .i64 c, .int .i64 d]] w fun e w' => e = .returned (.int .i64 (cmpV a b c d)) ∧ Below w.heap.size w w' := by
  cases m1 : mayB a b
  · have e : cmpV a b c d = 0 := by simp [cmpV, both, m1]
    rw [e]; exact rcmp_no1 a b c d w ha ha' hb hb' hc hc' hd hd' m1
  · cases m2 : mayB c d
    · have e : cmpV a b c d = 0 := by simp [cmpV, both, m2]
      rw [e]; exact rcmp_no2 a b c d w ha ha' hb hb' hc hc' hd hd' m1 m2
    · have pb := (may_of m1).1
      have pd := (may_of m2).1
      have za := sz_nonneg a
      have zc := sz_nonneg c
      have za' := sz_le ha ha'
      have zc' := sz_le hc hc'
      have kP := prod_le za za' (show 0 ≤ d by omega) (by omega)
      have kQ := prod_le zc zc' (show 0 ≤ b by omega) (by omega)
      refine rcmp_raw a b c d _ w ha ha' hb hb' hc hc' hd hd' m1 m2 pb pd za za' zc zc' kP.1 (by omega) kQ.1 (by omega) ?_
      have e : cmpV a b c d = cmpI (a * d) (c * b) := by simp [cmpV, both, m1, m2, cmpI]
      rw [e]
      by_cases s1 : a < 0 <;> by_cases s2 : c < 0
      · refine Or.inr (Or.inr (Or.inl ⟨s1, s2, ?_⟩))
        rw [sz_of_neg s1, sz_of_neg s2, Int.neg_mul, Int.neg_mul]
        unfold cmpI; split <;> split <;> (try split) <;> (try split) <;> omega
      · refine Or.inl ⟨s1, by omega, ?_⟩
        have e1 : a * d < 0 := Int.mul_neg_of_neg_of_pos s1 pd
        have e2 : 0 ≤ c * b := Int.mul_nonneg (by omega) (by omega)
        unfold cmpI; rw [if_pos (by omega)]
      · refine Or.inr (Or.inl ⟨by omega, s2, ?_⟩)
        have e1 : 0 ≤ a * d := Int.mul_nonneg (by omega) (by omega)
        have e2 : c * b < 0 := Int.mul_neg_of_neg_of_pos s2 pb
        unfold cmpI; rw [if_neg (by omega), if_pos (by omega)]
      · refine Or.inr (Or.inr (Or.inr ⟨by omega, by omega, ?_⟩))
        rw [sz_of_nonneg (show 0 ≤ a by omega), sz_of_nonneg (show 0 ≤ c by omega)]

end Go.Proofs.YtedoahibceeklaaGreatDoor
