/- The document's Mul of any two fractions. -/
import Derived.Test.YtedoahibceeklaaGreatDoorRef1
import Derived.Test.YtedoahibceeklaaGreatDoorKept
import Derived.Test.YtedoahibceeklaaGreatDoorPub
import Derived.Deep.DeepCutAuto

namespace Go.Proofs.YtedoahibceeklaaGreatDoor
open Go.RowKit

set_option maxRecDepth 100000 in
set_option maxHeartbeats 4000000 in
theorem rmul_raw (q : Bool) (a b c d : Int) (w : World) (ha : -9223372036854775808 ≤ a) (ha' : a ≤ 9223372036854775807) (hb : -9223372036854775808 ≤ b) (hb' : b ≤ 9223372036854775807) (hc : -9223372036854775808 ≤ c) (hc' : c ≤ 9223372036854775807) (hd : -9223372036854775808 ≤ d) (hd' : d ≤ 9223372036854775807) (m1 : mayB a b = true) (m2 : mayB c d = true) (pb : 0 < b) (pd : 0 < d) (za : 0 ≤ sz a) (za' : sz a ≤ 9223372036854775808) (zc : 0 ≤ sz c) (zc' : sz c ≤ 9223372036854775808)
    (HM : Hid (∀ W : World, Calls Tryz.prog 54 #[.bool q, .agg #[.int .u64 (g0 (sz a * sz c)), .int .u64 (g1 (sz a * sz c)), .int .u64 (g2 (sz a * sz c)), .int .u64 (g3 (sz a * sz c))], .agg #[.int .u64 (g0 (b * d)), .int .u64 (g1 (b * d)), .int .u64 (g2 (b * d)), .int .u64 (g3 (b * d))]] W fun e w' => e = .returned (.tuple #[.agg #[.int .i64 (rN (sg q (sz a * sz c)) (b * d)), .int .i64 (rD (sg q (sz a * sz c)) (b * d))], .int .i64 (rE (sg q (sz a * sz c)) (b * d))]) ∧ Below W.heap.size W w'))
    (hcase : (a < 0 ∧ c < 0 ∧ q = false) ∨ (0 ≤ a ∧ 0 ≤ c ∧ q = false) ∨ (a < 0 ∧ 0 ≤ c ∧ q = true ∧ ¬ (g0 (sz a * sz c) = 0 ∧ g1 (sz a * sz c) = 0 ∧ g2 (sz a * sz c) = 0 ∧ g3 (sz a * sz c) = 0)) ∨ (a < 0 ∧ 0 ≤ c ∧ q = false ∧ g0 (sz a * sz c) = 0 ∧ g1 (sz a * sz c) = 0 ∧ g2 (sz a * sz c) = 0 ∧ g3 (sz a * sz c) = 0) ∨ (0 ≤ a ∧ c < 0 ∧ q = true ∧ ¬ (g0 (sz a * sz c) = 0 ∧ g1 (sz a * sz c) = 0 ∧ g2 (sz a * sz c) = 0 ∧ g3 (sz a * sz c) = 0)) ∨ (0 ≤ a ∧ c < 0 ∧ q = false ∧ g0 (sz a * sz c) = 0 ∧ g1 (sz a * sz c) = 0 ∧ g2 (sz a * sz c) = 0 ∧ g3 (sz a * sz c) = 0)) :
    Calls Tryz.prog 39 #[.agg #[.int .i64 a, .int .i64 b], .agg #[.int .i64 c, .int .i64 d]] w fun e w' => e = .returned (.tuple #[.agg #[.int .i64 (rN (sg q (sz a * sz c)) (b * d)), .int .i64 (rD (sg q (sz a * sz c)) (b * d))], .int .i64 (rE (sg q (sz a * sz c)) (b * d))]) ∧ Below w.heap.size w w' := by
  have ub : IntKind.u64.wrap b = b := by rw [IntKind.wrap_u64]; omega
  have ud : IntKind.u64.wrap d = d := by rw [IntKind.wrap_u64]; omega
  go_enter Tryz.func39, Tryz.ntmps39
  go_upto_region 1 with fail
  refine wp_world ?_
  intro W0 hW0
  have A : Blk2 W0 (w.heap.size) (a) (b) := by rw [hW0]; constructor <;> simp (maxDischargeDepth := 12) [go_sem]
  have l_A : w.heap.size < W0.heap.size := by rw [hW0]; first | (simp; done) | (simp; omega)
  have B : Blk2 W0 (w.heap.size + 1) (c) (d) := by rw [hW0]; constructor <;> simp (maxDischargeDepth := 12) [go_sem]
  have l_B : w.heap.size + 1 < W0.heap.size := by rw [hW0]; first | (simp; done) | (simp; omega)
  have R : Blk2 W0 (w.heap.size + 1 + 1) (0) (0) := by rw [hW0]; constructor <;> simp (maxDischargeDepth := 12) [go_sem]
  have l_R : w.heap.size + 1 + 1 < W0.heap.size := by rw [hW0]; first | (simp; done) | (simp; omega)
  have hB0 : Below w.heap.size w W0 := by rw [hW0]; exact (by repeat' (first | (with_reducible exact Below.refl _ _) | (with_reducible assumption) | (with_reducible refine bdrewN _ ?_) | (with_reducible refine Below.alloc ?_ ?_ _) | (with_reducible refine Below.setCell ?_ ?_ _) | (with_reducible refine Below.drew ?_) | go_size | (simp; omega)))
  clear hW0
  have HA : Hid (Blk2 W0 (w.heap.size) (a) (b)) := A
  have HB : Hid (Blk2 W0 (w.heap.size + 1) (c) (d)) := B
  have HR : Hid (Blk2 W0 (w.heap.size + 1 + 1) (0) (0)) := R
  clear A B R
  obtain ⟨A_0, A_1, -, -⟩ := HA.out
  go_wp2_with fail
  refine (rmay_any a b _ ha ha' hb hb').mono ?_
  rintro e w1 ⟨rfl, hb1⟩
  clear A_0 A_1
  rw [m1]
  go_upto_region 2 with fail
  refine wp_world ?_
  intro W1 hW1
  have st1 : Below W0.heap.size W0 W1 := by rw [hW1]; exact (by repeat' (first | (with_reducible exact Below.refl _ _) | (with_reducible assumption) | (with_reducible refine bdrewN _ ?_) | (with_reducible refine Below.alloc ?_ ?_ _) | (with_reducible refine Below.setCell ?_ ?_ _) | (with_reducible refine Below.drew ?_) | go_size | (simp; omega)))
  clear hW1 hb1
  have A : Blk2 W1 (w.heap.size) (a) (b) := HA.out.below st1 l_A
  have l_A : w.heap.size < W1.heap.size := Nat.lt_of_lt_of_le l_A st1.size
  have B : Blk2 W1 (w.heap.size + 1) (c) (d) := HB.out.below st1 l_B
  have l_B : w.heap.size + 1 < W1.heap.size := Nat.lt_of_lt_of_le l_B st1.size
  have R : Blk2 W1 (w.heap.size + 1 + 1) (0) (0) := HR.out.below st1 l_R
  have l_R : w.heap.size + 1 + 1 < W1.heap.size := Nat.lt_of_lt_of_le l_R st1.size
  have hBW1 : Below w.heap.size w W1 := hB0.trans (st1.mono hB0.size)
  clear hB0 st1 HA HB HR
  have HA : Hid (Blk2 W1 (w.heap.size) (a) (b)) := A
  have HB : Hid (Blk2 W1 (w.heap.size + 1) (c) (d)) := B
  have HR : Hid (Blk2 W1 (w.heap.size + 1 + 1) (0) (0)) := R
  clear A B R
  obtain ⟨B_0, B_1, -, -⟩ := HB.out
  go_wp2_with fail
  refine (rmay_any c d _ hc hc' hd hd').mono ?_
  rintro e w2 ⟨rfl, hb2⟩
  clear B_0 B_1
  rw [m2]
  go_upto_region 5 with fail
  refine wp_world ?_
  intro W2 hW2
  have st2 : Below W1.heap.size W1 W2 := by rw [hW2]; exact (by repeat' (first | (with_reducible exact Below.refl _ _) | (with_reducible assumption) | (with_reducible refine bdrewN _ ?_) | (with_reducible refine Below.alloc ?_ ?_ _) | (with_reducible refine Below.setCell ?_ ?_ _) | (with_reducible refine Below.drew ?_) | go_size | (simp; omega)))
  clear hW2 hb2
  have A : Blk2 W2 (w.heap.size) (a) (b) := HA.out.below st2 l_A
  have l_A : w.heap.size < W2.heap.size := Nat.lt_of_lt_of_le l_A st2.size
  have B : Blk2 W2 (w.heap.size + 1) (c) (d) := HB.out.below st2 l_B
  have l_B : w.heap.size + 1 < W2.heap.size := Nat.lt_of_lt_of_le l_B st2.size
  have R : Blk2 W2 (w.heap.size + 1 + 1) (0) (0) := HR.out.below st2 l_R
  have l_R : w.heap.size + 1 + 1 < W2.heap.size := Nat.lt_of_lt_of_le l_R st2.size
  have hBW2 : Below w.heap.size w W2 := hBW1.trans (st2.mono hBW1.size)
  clear hBW1 st2 HA HB HR
  have HA : Hid (Blk2 W2 (w.heap.size) (a) (b)) := A
  have HB : Hid (Blk2 W2 (w.heap.size + 1) (c) (d)) := B
  have HR : Hid (Blk2 W2 (w.heap.size + 1 + 1) (0) (0)) := R
  clear A B R
  obtain ⟨A_0, A_1, -, -⟩ := HA.out
  obtain ⟨B_0, B_1, -, -⟩ := HB.out
  go_cut [8] (fun p wx => ∃ bn : Nat, p = .pointer (some ⟨bn, 0, none⟩) ∧ W2.heap.size ≤ bn ∧ bn < wx.heap.size ∧ Blk wx bn (g0 (sz a * sz c)) (g1 (sz a * sz c)) (g2 (sz a * sz c)) (g3 (sz a * sz c)) ∧ Below W2.heap.size W2 wx)
  case first =>
    go_region_held3 (fun w' => w'.cell? ⟨w.heap.size, 0, none⟩ = some (.int .i64 (a)) ∧ w'.cell? ⟨w.heap.size, 1, none⟩ = some (.int .i64 (b)) ∧ w'.cell? ⟨w.heap.size + 1, 0, none⟩ = some (.int .i64 (c)) ∧ w'.cell? ⟨w.heap.size + 1, 1, none⟩ = some (.int .i64 (d))) (exact ⟨bcl (n := W2.heap.size) (by go_grown) A_0 (by simp; try omega), bcl (n := W2.heap.size) (by go_grown) A_1 (by simp; try omega), bcl (n := W2.heap.size) (by go_grown) B_0 (by simp; try omega), bcl (n := W2.heap.size) (by go_grown) B_1 (by simp; try omega)⟩)
      (first
        | (go_at_call 47; refine (rsize_any _ _ (by omega) (by omega)).mono ?_; rintro e w' ⟨rfl, rfl⟩)
        | (go_at_call 46; refine (rtimes_any _ _ _ (by omega) (by omega) (by omega) (by omega)).mono ?_; rintro e w1 ⟨rfl, hb1⟩; obtain ⟨hc1, hf1, hz1, hB1, hn1, hm1⟩ := bg (n := W2.heap.size) (W0 := W2) (by go_grown) (by go_size) hb1; have z_A := hm1 (w.heap.size) l_A; have z_B := hm1 (w.heap.size + 1) l_B; clear hm1))
    all_goals
      go_wp2
      go_meet
      case rel =>
        refine ⟨_, rfl, ?_, ?_, ?_, ?_⟩
        · first | go_size | (simp; omega)
        · first | omega | (simp; done) | (simp; omega) | simp (maxDischargeDepth := 8) [go_sem, *]
        · constructor <;> simp (maxDischargeDepth := 8) [go_sem, *]
        · exact (by repeat' (first | (with_reducible exact Below.refl _ _) | (with_reducible assumption) | (with_reducible refine bdrewN _ ?_) | (with_reducible refine Below.alloc ?_ ?_ _) | (with_reducible refine Below.setCell ?_ ?_ _) | (with_reducible refine Below.drew ?_) | go_size | (simp; omega)))
  case rest =>
    obtain ⟨bP, rfl, n_P, l_P, P, st3⟩ := hcut
    clear A_0 A_1 B_0 B_1
    obtain ⟨V3, eV3⟩ : ∃ V3 : World, V3 = wc := ⟨_, rfl⟩
    rw [← eV3] at l_P P st3 ⊢
    clear eV3 wc
    have A : Blk2 V3 (w.heap.size) (a) (b) := HA.out.below st3 l_A
    have l_A : w.heap.size < V3.heap.size := Nat.lt_of_lt_of_le l_A st3.size
    have B : Blk2 V3 (w.heap.size + 1) (c) (d) := HB.out.below st3 l_B
    have l_B : w.heap.size + 1 < V3.heap.size := Nat.lt_of_lt_of_le l_B st3.size
    have R : Blk2 V3 (w.heap.size + 1 + 1) (0) (0) := HR.out.below st3 l_R
    have l_R : w.heap.size + 1 + 1 < V3.heap.size := Nat.lt_of_lt_of_le l_R st3.size
    have hBV3 : Below w.heap.size w V3 := hBW2.trans (st3.mono hBW2.size)
    clear hBW2 st3 HA HB HR
    go_upto_region 6 with fail
    have HA : Hid (Blk2 V3 (w.heap.size) (a) (b)) := A
    have HB : Hid (Blk2 V3 (w.heap.size + 1) (c) (d)) := B
    have HR : Hid (Blk2 V3 (w.heap.size + 1 + 1) (0) (0)) := R
    have HP : Hid (Blk V3 (bP) (g0 (sz a * sz c)) (g1 (sz a * sz c)) (g2 (sz a * sz c)) (g3 (sz a * sz c))) := P
    clear A B R P
    obtain ⟨A_0, A_1, -, -⟩ := HA.out
    obtain ⟨B_0, B_1, -, -⟩ := HB.out
    go_wp2_with fail
    refine (rtimes_any b d _ (by omega) (by omega) (by omega) (by omega)).mono ?_
    rintro e w4 ⟨rfl, hb4⟩
    have hz4 := hb4.size
    clear A_0 A_1 B_0 B_1
    go_upto_region 7 with fail
    refine wp_world ?_
    intro W4 hW4
    have st4 : Below V3.heap.size V3 W4 := by rw [hW4]; exact (by repeat' (first | (with_reducible exact Below.refl _ _) | (with_reducible assumption) | (with_reducible refine bdrewN _ ?_) | (with_reducible refine Below.alloc ?_ ?_ _) | (with_reducible refine Below.setCell ?_ ?_ _) | (with_reducible refine Below.drew ?_) | go_size | (simp; omega)))
    have Q : Blk W4 (w4.heap.size) (g0 (b * d)) (g1 (b * d)) (g2 (b * d)) (g3 (b * d)) := by rw [hW4]; constructor <;> simp (maxDischargeDepth := 12) [go_sem]
    have l_Q : w4.heap.size < W4.heap.size := by rw [hW4]; simp
    clear hW4
    have A : Blk2 W4 (w.heap.size) (a) (b) := HA.out.below st4 l_A
    have l_A : w.heap.size < W4.heap.size := Nat.lt_of_lt_of_le l_A st4.size
    have B : Blk2 W4 (w.heap.size + 1) (c) (d) := HB.out.below st4 l_B
    have l_B : w.heap.size + 1 < W4.heap.size := Nat.lt_of_lt_of_le l_B st4.size
    have R : Blk2 W4 (w.heap.size + 1 + 1) (0) (0) := HR.out.below st4 l_R
    have l_R : w.heap.size + 1 + 1 < W4.heap.size := Nat.lt_of_lt_of_le l_R st4.size
    have P : Blk W4 (bP) (g0 (sz a * sz c)) (g1 (sz a * sz c)) (g2 (sz a * sz c)) (g3 (sz a * sz c)) := HP.out.below st4 l_P
    have l_P : bP < W4.heap.size := Nat.lt_of_lt_of_le l_P st4.size
    have hBW4 : Below w.heap.size w W4 := hBV3.trans (st4.mono hBV3.size)
    clear hBV3 st4 HA HB HR HP
    rcases hcase with ⟨s1, s2, rfl⟩ | ⟨s1, s2, rfl⟩ | ⟨s1, s2, rfl, hn⟩ | ⟨s1, s2, rfl, n0, n1, n2, n3⟩ | ⟨s1, s2, rfl, hn⟩ | ⟨s1, s2, rfl, n0, n1, n2, n3⟩
    · have HA : Hid (Blk2 W4 (w.heap.size) (a) (b)) := A
      have HB : Hid (Blk2 W4 (w.heap.size + 1) (c) (d)) := B
      have HR : Hid (Blk2 W4 (w.heap.size + 1 + 1) (0) (0)) := R
      have HP : Hid (Blk W4 (bP) (g0 (sz a * sz c)) (g1 (sz a * sz c)) (g2 (sz a * sz c)) (g3 (sz a * sz c))) := P
      have HQ : Hid (Blk W4 (w4.heap.size) (g0 (b * d)) (g1 (b * d)) (g2 (b * d)) (g3 (b * d))) := Q
      clear A B R P Q
      obtain ⟨A_0, A_1, -, -⟩ := HA.out
      obtain ⟨B_0, B_1, -, -⟩ := HB.out
      obtain ⟨P_0, P_1, P_2, P_3, -, -, -, -⟩ := HP.out
      obtain ⟨Q_0, Q_1, Q_2, Q_3, -, -, -, -⟩ := HQ.out
      obtain ⟨R_0, R_1, -, -⟩ := HR.out
      have R_2 := HR.out.f0
      have R_3 := HR.out.f1
      have e1 : decide (a < 0) = true := by simp; omega
      have e2 : decide (c < 0) = true := by simp; omega
      have ne_A : w.heap.size ≠ w.heap.size + 1 + 1 := by omega
      have ne_B : w.heap.size + 1 ≠ w.heap.size + 1 + 1 := by omega
      have ne_P : bP ≠ w.heap.size + 1 + 1 := by omega
      have ne_Q : w4.heap.size ≠ w.heap.size + 1 + 1 := by omega
      go_cut [5] (fun p wx => p = .int .i64 (rE (sg false (sz a * sz c)) (b * d)) ∧ Blk2 wx (w.heap.size + 1 + 1) (rN (sg false (sz a * sz c)) (b * d)) (rD (sg false (sz a * sz c)) (b * d)) ∧ Below w.heap.size w wx)
      case first =>
        refine wp_region_held_drew (S := fun w' => w'.cell? ⟨w.heap.size, 0, none⟩ = some (.int .i64 (a)) ∧ w'.cell? ⟨w.heap.size, 1, none⟩ = some (.int .i64 (b)) ∧ w'.cell? ⟨w.heap.size + 1, 0, none⟩ = some (.int .i64 (c)) ∧ w'.cell? ⟨w.heap.size + 1, 1, none⟩ = some (.int .i64 (d)) ∧ w'.cell? ⟨bP, 0, none⟩ = some (.int .u64 (g0 (sz a * sz c))) ∧ w'.cell? ⟨bP, 1, none⟩ = some (.int .u64 (g1 (sz a * sz c))) ∧ w'.cell? ⟨bP, 2, none⟩ = some (.int .u64 (g2 (sz a * sz c))) ∧ w'.cell? ⟨bP, 3, none⟩ = some (.int .u64 (g3 (sz a * sz c))) ∧ w'.cell? ⟨w4.heap.size, 0, none⟩ = some (.int .u64 (g0 (b * d))) ∧ w'.cell? ⟨w4.heap.size, 1, none⟩ = some (.int .u64 (g1 (b * d))) ∧ w'.cell? ⟨w4.heap.size, 2, none⟩ = some (.int .u64 (g2 (b * d))) ∧ w'.cell? ⟨w4.heap.size, 3, none⟩ = some (.int .u64 (g3 (b * d)))) (by kernel_rfl) ?_ (fun hHeld => ?_)
        · exact ⟨bcl (n := W4.heap.size) (by go_grown) A_0 (by simp; try omega), bcl (n := W4.heap.size) (by go_grown) A_1 (by simp; try omega), bcl (n := W4.heap.size) (by go_grown) B_0 (by simp; try omega), bcl (n := W4.heap.size) (by go_grown) B_1 (by simp; try omega), bcl (n := W4.heap.size) (by go_grown) P_0 (by simp; try omega), bcl (n := W4.heap.size) (by go_grown) P_1 (by simp; try omega), bcl (n := W4.heap.size) (by go_grown) P_2 (by simp; try omega), bcl (n := W4.heap.size) (by go_grown) P_3 (by simp; try omega), bcl (n := W4.heap.size) (by go_grown) Q_0 (by simp; try omega), bcl (n := W4.heap.size) (by go_grown) Q_1 (by simp; try omega), bcl (n := W4.heap.size) (by go_grown) Q_2 (by simp; try omega), bcl (n := W4.heap.size) (by go_grown) Q_3 (by simp; try omega)⟩
        refine wpAnyH_take (i := 0) (oi := ({ dst := some 35, op := Op.fieldAddr 45 (Operand.tmp 2) 0, type := 0, pos := "ref.go:203", after := #[], guard := none } : Oper)) (v := ?yv100) rfl (by kernel_rfl) (by kernel_rfl) (by kernel_rfl) (fun _ _ _ h => h) (Or.inl ⟨by rfl, ?yh100⟩) (by assumption) ?yr100
        case yh100 => (intro wq hSw; (try dsimp only at hSw); go_simp; first | done | with_reducible rfl)
        simp only [Act.put, List.setIfInBounds_toArray, List.set_cons_zero, List.set_cons_succ]
        refine wpAnyH_take (i := 1) (oi := ({ dst := some 36, op := Op.load 2 (Operand.tmp 35), type := 2, pos := "ref.go:203", after := #[{ on := 0, ground := Ground.data }], guard := none } : Oper)) (v := ?yv101) rfl (by kernel_rfl) (by kernel_rfl) (by kernel_rfl) (fun _ _ _ h => h) (Or.inl ⟨by rfl, ?yh101⟩) (by assumption) ?yr101
        case yh101 => (intro wq hSw; (try dsimp only at hSw); go_simp; first | done | with_reducible rfl)
        simp only [Act.put, List.setIfInBounds_toArray, List.set_cons_zero, List.set_cons_succ]
        refine wpAnyH_take (i := 2) (oi := ({ dst := some 37, op := Op.binOp BinOp.lss 2 (Operand.tmp 36) (Operand.const (Value.int IntKind.i64 0)) 2, type := 4, pos := "ref.go:203", after := #[{ on := 1, ground := Ground.data }], guard := none } : Oper)) (v := ?yv102) rfl (by kernel_rfl) (by kernel_rfl) (by kernel_rfl) (fun _ _ _ h => h) (Or.inl ⟨by rfl, ?yh102⟩) (by assumption) ?yr102
        case yh102 => (intro wq hSw; (try dsimp only at hSw); go_simp; first | done | with_reducible rfl)
        simp only [Act.put, List.setIfInBounds_toArray, List.set_cons_zero, List.set_cons_succ]
        refine wpAnyH_take (i := 3) (oi := ({ dst := some 38, op := Op.fieldAddr 45 (Operand.tmp 3) 0, type := 0, pos := "ref.go:203", after := #[], guard := none } : Oper)) (v := ?yv103) rfl (by kernel_rfl) (by kernel_rfl) (by kernel_rfl) (fun _ _ _ h => h) (Or.inl ⟨by rfl, ?yh103⟩) (by assumption) ?yr103
        case yh103 => (intro wq hSw; (try dsimp only at hSw); go_simp; first | done | with_reducible rfl)
        simp only [Act.put, List.setIfInBounds_toArray, List.set_cons_zero, List.set_cons_succ]
        refine wpAnyH_take (i := 4) (oi := ({ dst := some 39, op := Op.load 2 (Operand.tmp 38), type := 2, pos := "ref.go:203", after := #[{ on := 3, ground := Ground.data }], guard := none } : Oper)) (v := ?yv104) rfl (by kernel_rfl) (by kernel_rfl) (by kernel_rfl) (fun _ _ _ h => h) (Or.inl ⟨by rfl, ?yh104⟩) (by assumption) ?yr104
        case yh104 => (intro wq hSw; (try dsimp only at hSw); go_simp; first | done | with_reducible rfl)
        simp only [Act.put, List.setIfInBounds_toArray, List.set_cons_zero, List.set_cons_succ]
        refine wpAnyH_take (i := 5) (oi := ({ dst := some 40, op := Op.binOp BinOp.lss 2 (Operand.tmp 39) (Operand.const (Value.int IntKind.i64 0)) 2, type := 4, pos := "ref.go:203", after := #[{ on := 4, ground := Ground.data }], guard := none } : Oper)) (v := ?yv105) rfl (by kernel_rfl) (by kernel_rfl) (by kernel_rfl) (fun _ _ _ h => h) (Or.inl ⟨by rfl, ?yh105⟩) (by assumption) ?yr105
        case yh105 => (intro wq hSw; (try dsimp only at hSw); go_simp; first | done | with_reducible rfl)
        simp only [Act.put, List.setIfInBounds_toArray, List.set_cons_zero, List.set_cons_succ]
        refine wpAnyH_take (i := 6) (oi := ({ dst := some 41, op := Op.binOp BinOp.neq 4 (Operand.tmp 37) (Operand.tmp 40) 4, type := 4, pos := "ref.go:203", after := #[{ on := 2, ground := Ground.data }, { on := 5, ground := Ground.data }], guard := none } : Oper)) (v := ?yv106) rfl (by kernel_rfl) (by kernel_rfl) (by kernel_rfl) (fun _ _ _ h => h) (Or.inl ⟨by rfl, ?yh106⟩) (by assumption) ?yr106
        case yh106 => (intro wq hSw; (try dsimp only at hSw); go_simp; first | done | with_reducible rfl)
        simp only [Act.put, List.setIfInBounds_toArray, List.set_cons_zero, List.set_cons_succ]
        refine wpAnyH_take (i := 7) (oi := ({ dst := some 42, op := Op.move (Operand.tmp 41), type := 4, pos := "ref.go:203", after := #[{ on := 6, ground := Ground.data }], guard := none } : Oper)) (v := ?yv107) rfl (by kernel_rfl) (by kernel_rfl) (by kernel_rfl) (fun _ _ _ h => h) (Or.inl ⟨by rfl, ?yh107⟩) (by assumption) ?yr107
        case yh107 => (intro wq hSw; (try dsimp only at hSw); go_simp; first | done | with_reducible rfl)
        simp only [Act.put, List.setIfInBounds_toArray, List.set_cons_zero, List.set_cons_succ]
        refine wpAnyH_take (i := 8) (oi := ({ dst := some 43, op := Op.load 70 (Operand.tmp 8), type := 70, pos := "ref.go:203", after := #[{ on := 7, ground := Ground.guard }], guard := some (7, true) } : Oper)) (v := undef) rfl (by kernel_rfl) (by kernel_rfl) (by kernel_rfl) (fun _ _ _ h => h) (Or.inr ⟨by rfl, rfl⟩) (by assumption) ?_
        simp only [Act.put, List.setIfInBounds_toArray, List.set_cons_zero, List.set_cons_succ]
        refine wpAnyH_take (i := 9) (oi := ({ dst := some 44, op := Op.build 70 #[], type := 70, pos := "ref.go:203", after := #[{ on := 7, ground := Ground.guard }], guard := some (7, true) } : Oper)) (v := undef) rfl (by kernel_rfl) (by kernel_rfl) (by kernel_rfl) (fun _ _ _ h => h) (Or.inr ⟨by rfl, rfl⟩) (by assumption) ?_
        simp only [Act.put, List.setIfInBounds_toArray, List.set_cons_zero, List.set_cons_succ]
        refine wpAnyH_take (i := 10) (oi := ({ dst := some 45, op := Op.binOp BinOp.neq 70 (Operand.tmp 43) (Operand.tmp 44) 70, type := 4, pos := "ref.go:203", after := #[{ on := 8, ground := Ground.data }, { on := 9, ground := Ground.data }, { on := 7, ground := Ground.guard }], guard := some (7, true) } : Oper)) (v := undef) rfl (by kernel_rfl) (by kernel_rfl) (by kernel_rfl) (fun _ _ _ h => h) (Or.inr ⟨by rfl, rfl⟩) (by assumption) ?_
        simp only [Act.put, List.setIfInBounds_toArray, List.set_cons_zero, List.set_cons_succ]
        refine wpAnyH_take (i := 11) (oi := ({ dst := some 46, op := Op.pick (Operand.tmp 42) (Operand.tmp 45) (Operand.const (Value.bool false)), type := 4, pos := "ref.go:203", after := #[{ on := 7, ground := Ground.data }, { on := 10, ground := Ground.data }], guard := none } : Oper)) (v := ?yv111) rfl (by kernel_rfl) (by kernel_rfl) (by kernel_rfl) (fun _ _ _ h => h) (Or.inl ⟨by rfl, ?yh111⟩) (by assumption) ?yr111
        case yh111 => (intro wq hSw; (try dsimp only at hSw); go_simp; first | done | with_reducible rfl)
        simp only [Act.put, List.setIfInBounds_toArray, List.set_cons_zero, List.set_cons_succ]
        refine wpAnyH_take (i := 12) (oi := ({ dst := some 47, op := Op.load 70 (Operand.tmp 8), type := 70, pos := "ref.go:203", after := #[], guard := none } : Oper)) (v := ?yv112) rfl (by kernel_rfl) (by kernel_rfl) (by kernel_rfl) (fun _ _ _ h => h) (Or.inl ⟨by rfl, ?yh112⟩) (by assumption) ?yr112
        case yh112 => (intro wq hSw; (try dsimp only at hSw); go_simp; first | done | with_reducible rfl)
        simp only [Act.put, List.setIfInBounds_toArray, List.set_cons_zero, List.set_cons_succ]
        refine wpAnyH_take (i := 13) (oi := ({ dst := some 48, op := Op.load 70 (Operand.tmp 9), type := 70, pos := "ref.go:203", after := #[], guard := none } : Oper)) (v := ?yv113) rfl (by kernel_rfl) (by kernel_rfl) (by kernel_rfl) (fun _ _ _ h => h) (Or.inl ⟨by rfl, ?yh113⟩) (by assumption) ?yr113
        case yh113 => (intro wq hSw; (try dsimp only at hSw); go_simp; first | done | with_reducible rfl)
        simp only [Act.put, List.setIfInBounds_toArray, List.set_cons_zero, List.set_cons_succ]
        refine wpAnyH_ready (rs := [14]) (by kernel_rfl) (by simp) ?_
        refine AllReadyH.cons (o := ({ dst := some 49, op := Op.call { callee := Callee.value (Operand.func 54), args := #[Operand.tmp 46, Operand.tmp 47, Operand.tmp 48], argTypes := #[4, 70, 70] }, type := 53, pos := "ref.go:203", after := #[{ on := 11, ground := Ground.data }, { on := 12, ground := Ground.data }, { on := 13, ground := Ground.data }, { on := 7, ground := Ground.chain }], guard := none } : Oper)) rfl (fun K hK => ?_) AllReadyH.nil
        go_simp
        go_at_call 54; refine (HM.out _).mono ?_; rintro e w1 ⟨rfl, hb1⟩; obtain ⟨hc1, hf1, hz1, hB1, hn1, hm1⟩ := bg (n := W4.heap.size) (W0 := W4) (by go_grown) (by go_size) hb1; have z_R := hm1 _ l_R; have R0' := bcl hB1 R_0 l_R; have R1' := bcl hB1 R_1 l_R; have R2' := bfr hB1 R_2 l_R; have R3' := bfr hB1 R_3 l_R; clear hm1 hc1 hf1
        (try go_wp2_with fail)
        refine hK.out _ _ ?_ (fun hHeld => ?_)
        · exact ⟨bcl (n := W4.heap.size) (by go_grown) A_0 (by simp; try omega), bcl (n := W4.heap.size) (by go_grown) A_1 (by simp; try omega), bcl (n := W4.heap.size) (by go_grown) B_0 (by simp; try omega), bcl (n := W4.heap.size) (by go_grown) B_1 (by simp; try omega), bcl (n := W4.heap.size) (by go_grown) P_0 (by simp; try omega), bcl (n := W4.heap.size) (by go_grown) P_1 (by simp; try omega), bcl (n := W4.heap.size) (by go_grown) P_2 (by simp; try omega), bcl (n := W4.heap.size) (by go_grown) P_3 (by simp; try omega), bcl (n := W4.heap.size) (by go_grown) Q_0 (by simp; try omega), bcl (n := W4.heap.size) (by go_grown) Q_1 (by simp; try omega), bcl (n := W4.heap.size) (by go_grown) Q_2 (by simp; try omega), bcl (n := W4.heap.size) (by go_grown) Q_3 (by simp; try omega)⟩
        clear hK K
        try simp only [Act.put, List.setIfInBounds_toArray, List.set_cons_zero, List.set_cons_succ]
        refine wpAnyH_take (i := 15) (oi := ({ dst := some 50, op := Op.extract (Operand.tmp 49) 0, type := 45, pos := "ref.go:203", after := #[{ on := 14, ground := Ground.data }], guard := none } : Oper)) (v := ?yv115) rfl (by kernel_rfl) (by kernel_rfl) (by kernel_rfl) (fun _ _ _ h => h) (Or.inl ⟨by rfl, ?yh115⟩) (by assumption) ?yr115
        case yh115 => (intro wq hSw; (try dsimp only at hSw); go_simp; first | done | with_reducible rfl)
        simp only [Act.put, List.setIfInBounds_toArray, List.set_cons_zero, List.set_cons_succ]
        refine wpAnyH_take (i := 16) (oi := ({ dst := some 51, op := Op.extract (Operand.tmp 49) 1, type := 24, pos := "ref.go:203", after := #[{ on := 14, ground := Ground.data }], guard := none } : Oper)) (v := ?yv116) rfl (by kernel_rfl) (by kernel_rfl) (by kernel_rfl) (fun _ _ _ h => h) (Or.inl ⟨by rfl, ?yh116⟩) (by assumption) ?yr116
        case yh116 => (intro wq hSw; (try dsimp only at hSw); go_simp; first | done | with_reducible rfl)
        simp only [Act.put, List.setIfInBounds_toArray, List.set_cons_zero, List.set_cons_succ]
        refine wpAnyH_ready (rs := [17]) (by kernel_rfl) (by simp) ?_
        refine AllReadyH.cons (o := ({ dst := none, op := Op.store 45 (Operand.tmp 4) (Operand.tmp 50), type := 0, pos := "ref.go:203", after := #[{ on := 15, ground := Ground.data }, { on := 14, ground := Ground.chain }, { on := 0, ground := Ground.phase }, { on := 1, ground := Ground.phase }, { on := 2, ground := Ground.phase }, { on := 3, ground := Ground.phase }, { on := 4, ground := Ground.phase }, { on := 5, ground := Ground.phase }, { on := 6, ground := Ground.phase }, { on := 7, ground := Ground.phase }, { on := 8, ground := Ground.phase }, { on := 9, ground := Ground.phase }, { on := 10, ground := Ground.phase }, { on := 11, ground := Ground.phase }, { on := 12, ground := Ground.phase }, { on := 13, ground := Ground.phase }, { on := 14, ground := Ground.phase }, { on := 15, ground := Ground.phase }, { on := 16, ground := Ground.phase }], guard := none } : Oper)) rfl (fun K hK => ?_) AllReadyH.nil
        go_simp
        refine hK.out _ _ ?_ (fun hHeld => ?_)
        · exact ⟨kc2 hB1 A_0 l_A ne_A, kc2 hB1 A_1 l_A ne_A, kc2 hB1 B_0 l_B ne_B, kc2 hB1 B_1 l_B ne_B, kc2 hB1 P_0 l_P ne_P, kc2 hB1 P_1 l_P ne_P, kc2 hB1 P_2 l_P ne_P, kc2 hB1 P_3 l_P ne_P, kc2 hB1 Q_0 l_Q ne_Q, kc2 hB1 Q_1 l_Q ne_Q, kc2 hB1 Q_2 l_Q ne_Q, kc2 hB1 Q_3 l_Q ne_Q⟩
        clear hK K
        try simp only [Act.put, List.setIfInBounds_toArray, List.set_cons_zero, List.set_cons_succ]
        refine wpAnyH_take (i := 18) (oi := ({ dst := some 5, op := Op.assign (Operand.tmp 51), type := 24, pos := "ref.go:203", after := #[{ on := 16, ground := Ground.data }, { on := 17, ground := Ground.chain }, { on := 0, ground := Ground.phase }, { on := 1, ground := Ground.phase }, { on := 2, ground := Ground.phase }, { on := 3, ground := Ground.phase }, { on := 4, ground := Ground.phase }, { on := 5, ground := Ground.phase }, { on := 6, ground := Ground.phase }, { on := 7, ground := Ground.phase }, { on := 8, ground := Ground.phase }, { on := 9, ground := Ground.phase }, { on := 10, ground := Ground.phase }, { on := 11, ground := Ground.phase }, { on := 12, ground := Ground.phase }, { on := 13, ground := Ground.phase }, { on := 14, ground := Ground.phase }, { on := 15, ground := Ground.phase }, { on := 16, ground := Ground.phase }, { on := 17, ground := Ground.phase }], guard := none } : Oper)) (v := ?yv118) rfl (by kernel_rfl) (by kernel_rfl) (by kernel_rfl) (fun _ _ _ h => h) (Or.inl ⟨by rfl, ?yh118⟩) (by assumption) ?yr118
        case yh118 => (intro wq hSw; (try dsimp only at hSw); go_simp; first | done | with_reducible rfl)
        simp only [Act.put, List.setIfInBounds_toArray, List.set_cons_zero, List.set_cons_succ]
        refine wpAnyH_done (by kernel_rfl) ?_ _
        (try go_wp2)
        go_meet
        case rel =>
          have hBx : Below w.heap.size w w1 := hBW4.trans (hB1.mono hBW4.size)
          refine ⟨rfl, ?_, ?_⟩
          · first
              | exact (HR.out.below hB1 l_R).two _ _
              | exact ((HR.out.below hB1 l_R).two _ _).drewN _
              | (constructor <;> simp (maxDischargeDepth := 8) [go_sem, *])
          · exact (by repeat' (first | (with_reducible exact Below.refl _ _) | (with_reducible assumption) | (with_reducible refine bdrewN _ ?_) | (with_reducible refine Below.alloc ?_ ?_ _) | (with_reducible refine Below.setCell ?_ ?_ _) | (with_reducible refine Below.drew ?_) | go_size | (simp; omega)))
      case rest =>
        obtain ⟨rfl, b9, hB9⟩ := hcut
        obtain ⟨x0, x1, -, -⟩ := b9
        clear HM R_2 R_3 A_0 A_1 B_0 B_1 P_0 P_1 P_2 P_3 Q_0 Q_1 Q_2 Q_3 R_0 R_1 hBW4
        go_wp2
        refine bodyPost_ret (by simp [results, Tryz.results39, go_sem, x0, x1]; try rfl) rfl ?_
        exact ⟨rfl, hB9⟩
    · have HA : Hid (Blk2 W4 (w.heap.size) (a) (b)) := A
      have HB : Hid (Blk2 W4 (w.heap.size + 1) (c) (d)) := B
      have HR : Hid (Blk2 W4 (w.heap.size + 1 + 1) (0) (0)) := R
      have HP : Hid (Blk W4 (bP) (g0 (sz a * sz c)) (g1 (sz a * sz c)) (g2 (sz a * sz c)) (g3 (sz a * sz c))) := P
      have HQ : Hid (Blk W4 (w4.heap.size) (g0 (b * d)) (g1 (b * d)) (g2 (b * d)) (g3 (b * d))) := Q
      clear A B R P Q
      obtain ⟨A_0, A_1, -, -⟩ := HA.out
      obtain ⟨B_0, B_1, -, -⟩ := HB.out
      obtain ⟨P_0, P_1, P_2, P_3, -, -, -, -⟩ := HP.out
      obtain ⟨Q_0, Q_1, Q_2, Q_3, -, -, -, -⟩ := HQ.out
      obtain ⟨R_0, R_1, -, -⟩ := HR.out
      have R_2 := HR.out.f0
      have R_3 := HR.out.f1
      have e1 : decide (a < 0) = false := by simp; omega
      have e2 : decide (c < 0) = false := by simp; omega
      have ne_A : w.heap.size ≠ w.heap.size + 1 + 1 := by omega
      have ne_B : w.heap.size + 1 ≠ w.heap.size + 1 + 1 := by omega
      have ne_P : bP ≠ w.heap.size + 1 + 1 := by omega
      have ne_Q : w4.heap.size ≠ w.heap.size + 1 + 1 := by omega
      go_cut [5] (fun p wx => p = .int .i64 (rE (sg false (sz a * sz c)) (b * d)) ∧ Blk2 wx (w.heap.size + 1 + 1) (rN (sg false (sz a * sz c)) (b * d)) (rD (sg false (sz a * sz c)) (b * d)) ∧ Below w.heap.size w wx)
      case first =>
        refine wp_region_held_drew (S := fun w' => w'.cell? ⟨w.heap.size, 0, none⟩ = some (.int .i64 (a)) ∧ w'.cell? ⟨w.heap.size, 1, none⟩ = some (.int .i64 (b)) ∧ w'.cell? ⟨w.heap.size + 1, 0, none⟩ = some (.int .i64 (c)) ∧ w'.cell? ⟨w.heap.size + 1, 1, none⟩ = some (.int .i64 (d)) ∧ w'.cell? ⟨bP, 0, none⟩ = some (.int .u64 (g0 (sz a * sz c))) ∧ w'.cell? ⟨bP, 1, none⟩ = some (.int .u64 (g1 (sz a * sz c))) ∧ w'.cell? ⟨bP, 2, none⟩ = some (.int .u64 (g2 (sz a * sz c))) ∧ w'.cell? ⟨bP, 3, none⟩ = some (.int .u64 (g3 (sz a * sz c))) ∧ w'.cell? ⟨w4.heap.size, 0, none⟩ = some (.int .u64 (g0 (b * d))) ∧ w'.cell? ⟨w4.heap.size, 1, none⟩ = some (.int .u64 (g1 (b * d))) ∧ w'.cell? ⟨w4.heap.size, 2, none⟩ = some (.int .u64 (g2 (b * d))) ∧ w'.cell? ⟨w4.heap.size, 3, none⟩ = some (.int .u64 (g3 (b * d)))) (by kernel_rfl) ?_ (fun hHeld => ?_)
        · exact ⟨bcl (n := W4.heap.size) (by go_grown) A_0 (by simp; try omega), bcl (n := W4.heap.size) (by go_grown) A_1 (by simp; try omega), bcl (n := W4.heap.size) (by go_grown) B_0 (by simp; try omega), bcl (n := W4.heap.size) (by go_grown) B_1 (by simp; try omega), bcl (n := W4.heap.size) (by go_grown) P_0 (by simp; try omega), bcl (n := W4.heap.size) (by go_grown) P_1 (by simp; try omega), bcl (n := W4.heap.size) (by go_grown) P_2 (by simp; try omega), bcl (n := W4.heap.size) (by go_grown) P_3 (by simp; try omega), bcl (n := W4.heap.size) (by go_grown) Q_0 (by simp; try omega), bcl (n := W4.heap.size) (by go_grown) Q_1 (by simp; try omega), bcl (n := W4.heap.size) (by go_grown) Q_2 (by simp; try omega), bcl (n := W4.heap.size) (by go_grown) Q_3 (by simp; try omega)⟩
        refine wpAnyH_take (i := 0) (oi := ({ dst := some 35, op := Op.fieldAddr 45 (Operand.tmp 2) 0, type := 0, pos := "ref.go:203", after := #[], guard := none } : Oper)) (v := ?yv200) rfl (by kernel_rfl) (by kernel_rfl) (by kernel_rfl) (fun _ _ _ h => h) (Or.inl ⟨by rfl, ?yh200⟩) (by assumption) ?yr200
        case yh200 => (intro wq hSw; (try dsimp only at hSw); go_simp; first | done | with_reducible rfl)
        simp only [Act.put, List.setIfInBounds_toArray, List.set_cons_zero, List.set_cons_succ]
        refine wpAnyH_take (i := 1) (oi := ({ dst := some 36, op := Op.load 2 (Operand.tmp 35), type := 2, pos := "ref.go:203", after := #[{ on := 0, ground := Ground.data }], guard := none } : Oper)) (v := ?yv201) rfl (by kernel_rfl) (by kernel_rfl) (by kernel_rfl) (fun _ _ _ h => h) (Or.inl ⟨by rfl, ?yh201⟩) (by assumption) ?yr201
        case yh201 => (intro wq hSw; (try dsimp only at hSw); go_simp; first | done | with_reducible rfl)
        simp only [Act.put, List.setIfInBounds_toArray, List.set_cons_zero, List.set_cons_succ]
        refine wpAnyH_take (i := 2) (oi := ({ dst := some 37, op := Op.binOp BinOp.lss 2 (Operand.tmp 36) (Operand.const (Value.int IntKind.i64 0)) 2, type := 4, pos := "ref.go:203", after := #[{ on := 1, ground := Ground.data }], guard := none } : Oper)) (v := ?yv202) rfl (by kernel_rfl) (by kernel_rfl) (by kernel_rfl) (fun _ _ _ h => h) (Or.inl ⟨by rfl, ?yh202⟩) (by assumption) ?yr202
        case yh202 => (intro wq hSw; (try dsimp only at hSw); go_simp; first | done | with_reducible rfl)
        simp only [Act.put, List.setIfInBounds_toArray, List.set_cons_zero, List.set_cons_succ]
        refine wpAnyH_take (i := 3) (oi := ({ dst := some 38, op := Op.fieldAddr 45 (Operand.tmp 3) 0, type := 0, pos := "ref.go:203", after := #[], guard := none } : Oper)) (v := ?yv203) rfl (by kernel_rfl) (by kernel_rfl) (by kernel_rfl) (fun _ _ _ h => h) (Or.inl ⟨by rfl, ?yh203⟩) (by assumption) ?yr203
        case yh203 => (intro wq hSw; (try dsimp only at hSw); go_simp; first | done | with_reducible rfl)
        simp only [Act.put, List.setIfInBounds_toArray, List.set_cons_zero, List.set_cons_succ]
        refine wpAnyH_take (i := 4) (oi := ({ dst := some 39, op := Op.load 2 (Operand.tmp 38), type := 2, pos := "ref.go:203", after := #[{ on := 3, ground := Ground.data }], guard := none } : Oper)) (v := ?yv204) rfl (by kernel_rfl) (by kernel_rfl) (by kernel_rfl) (fun _ _ _ h => h) (Or.inl ⟨by rfl, ?yh204⟩) (by assumption) ?yr204
        case yh204 => (intro wq hSw; (try dsimp only at hSw); go_simp; first | done | with_reducible rfl)
        simp only [Act.put, List.setIfInBounds_toArray, List.set_cons_zero, List.set_cons_succ]
        refine wpAnyH_take (i := 5) (oi := ({ dst := some 40, op := Op.binOp BinOp.lss 2 (Operand.tmp 39) (Operand.const (Value.int IntKind.i64 0)) 2, type := 4, pos := "ref.go:203", after := #[{ on := 4, ground := Ground.data }], guard := none } : Oper)) (v := ?yv205) rfl (by kernel_rfl) (by kernel_rfl) (by kernel_rfl) (fun _ _ _ h => h) (Or.inl ⟨by rfl, ?yh205⟩) (by assumption) ?yr205
        case yh205 => (intro wq hSw; (try dsimp only at hSw); go_simp; first | done | with_reducible rfl)
        simp only [Act.put, List.setIfInBounds_toArray, List.set_cons_zero, List.set_cons_succ]
        refine wpAnyH_take (i := 6) (oi := ({ dst := some 41, op := Op.binOp BinOp.neq 4 (Operand.tmp 37) (Operand.tmp 40) 4, type := 4, pos := "ref.go:203", after := #[{ on := 2, ground := Ground.data }, { on := 5, ground := Ground.data }], guard := none } : Oper)) (v := ?yv206) rfl (by kernel_rfl) (by kernel_rfl) (by kernel_rfl) (fun _ _ _ h => h) (Or.inl ⟨by rfl, ?yh206⟩) (by assumption) ?yr206
        case yh206 => (intro wq hSw; (try dsimp only at hSw); go_simp; first | done | with_reducible rfl)
        simp only [Act.put, List.setIfInBounds_toArray, List.set_cons_zero, List.set_cons_succ]
        refine wpAnyH_take (i := 7) (oi := ({ dst := some 42, op := Op.move (Operand.tmp 41), type := 4, pos := "ref.go:203", after := #[{ on := 6, ground := Ground.data }], guard := none } : Oper)) (v := ?yv207) rfl (by kernel_rfl) (by kernel_rfl) (by kernel_rfl) (fun _ _ _ h => h) (Or.inl ⟨by rfl, ?yh207⟩) (by assumption) ?yr207
        case yh207 => (intro wq hSw; (try dsimp only at hSw); go_simp; first | done | with_reducible rfl)
        simp only [Act.put, List.setIfInBounds_toArray, List.set_cons_zero, List.set_cons_succ]
        refine wpAnyH_take (i := 8) (oi := ({ dst := some 43, op := Op.load 70 (Operand.tmp 8), type := 70, pos := "ref.go:203", after := #[{ on := 7, ground := Ground.guard }], guard := some (7, true) } : Oper)) (v := undef) rfl (by kernel_rfl) (by kernel_rfl) (by kernel_rfl) (fun _ _ _ h => h) (Or.inr ⟨by rfl, rfl⟩) (by assumption) ?_
        simp only [Act.put, List.setIfInBounds_toArray, List.set_cons_zero, List.set_cons_succ]
        refine wpAnyH_take (i := 9) (oi := ({ dst := some 44, op := Op.build 70 #[], type := 70, pos := "ref.go:203", after := #[{ on := 7, ground := Ground.guard }], guard := some (7, true) } : Oper)) (v := undef) rfl (by kernel_rfl) (by kernel_rfl) (by kernel_rfl) (fun _ _ _ h => h) (Or.inr ⟨by rfl, rfl⟩) (by assumption) ?_
        simp only [Act.put, List.setIfInBounds_toArray, List.set_cons_zero, List.set_cons_succ]
        refine wpAnyH_take (i := 10) (oi := ({ dst := some 45, op := Op.binOp BinOp.neq 70 (Operand.tmp 43) (Operand.tmp 44) 70, type := 4, pos := "ref.go:203", after := #[{ on := 8, ground := Ground.data }, { on := 9, ground := Ground.data }, { on := 7, ground := Ground.guard }], guard := some (7, true) } : Oper)) (v := undef) rfl (by kernel_rfl) (by kernel_rfl) (by kernel_rfl) (fun _ _ _ h => h) (Or.inr ⟨by rfl, rfl⟩) (by assumption) ?_
        simp only [Act.put, List.setIfInBounds_toArray, List.set_cons_zero, List.set_cons_succ]
        refine wpAnyH_take (i := 11) (oi := ({ dst := some 46, op := Op.pick (Operand.tmp 42) (Operand.tmp 45) (Operand.const (Value.bool false)), type := 4, pos := "ref.go:203", after := #[{ on := 7, ground := Ground.data }, { on := 10, ground := Ground.data }], guard := none } : Oper)) (v := ?yv211) rfl (by kernel_rfl) (by kernel_rfl) (by kernel_rfl) (fun _ _ _ h => h) (Or.inl ⟨by rfl, ?yh211⟩) (by assumption) ?yr211
        case yh211 => (intro wq hSw; (try dsimp only at hSw); go_simp; first | done | with_reducible rfl)
        simp only [Act.put, List.setIfInBounds_toArray, List.set_cons_zero, List.set_cons_succ]
        refine wpAnyH_take (i := 12) (oi := ({ dst := some 47, op := Op.load 70 (Operand.tmp 8), type := 70, pos := "ref.go:203", after := #[], guard := none } : Oper)) (v := ?yv212) rfl (by kernel_rfl) (by kernel_rfl) (by kernel_rfl) (fun _ _ _ h => h) (Or.inl ⟨by rfl, ?yh212⟩) (by assumption) ?yr212
        case yh212 => (intro wq hSw; (try dsimp only at hSw); go_simp; first | done | with_reducible rfl)
        simp only [Act.put, List.setIfInBounds_toArray, List.set_cons_zero, List.set_cons_succ]
        refine wpAnyH_take (i := 13) (oi := ({ dst := some 48, op := Op.load 70 (Operand.tmp 9), type := 70, pos := "ref.go:203", after := #[], guard := none } : Oper)) (v := ?yv213) rfl (by kernel_rfl) (by kernel_rfl) (by kernel_rfl) (fun _ _ _ h => h) (Or.inl ⟨by rfl, ?yh213⟩) (by assumption) ?yr213
        case yh213 => (intro wq hSw; (try dsimp only at hSw); go_simp; first | done | with_reducible rfl)
        simp only [Act.put, List.setIfInBounds_toArray, List.set_cons_zero, List.set_cons_succ]
        refine wpAnyH_ready (rs := [14]) (by kernel_rfl) (by simp) ?_
        refine AllReadyH.cons (o := ({ dst := some 49, op := Op.call { callee := Callee.value (Operand.func 54), args := #[Operand.tmp 46, Operand.tmp 47, Operand.tmp 48], argTypes := #[4, 70, 70] }, type := 53, pos := "ref.go:203", after := #[{ on := 11, ground := Ground.data }, { on := 12, ground := Ground.data }, { on := 13, ground := Ground.data }, { on := 7, ground := Ground.chain }], guard := none } : Oper)) rfl (fun K hK => ?_) AllReadyH.nil
        go_simp
        go_at_call 54; refine (HM.out _).mono ?_; rintro e w1 ⟨rfl, hb1⟩; obtain ⟨hc1, hf1, hz1, hB1, hn1, hm1⟩ := bg (n := W4.heap.size) (W0 := W4) (by go_grown) (by go_size) hb1; have z_R := hm1 _ l_R; have R0' := bcl hB1 R_0 l_R; have R1' := bcl hB1 R_1 l_R; have R2' := bfr hB1 R_2 l_R; have R3' := bfr hB1 R_3 l_R; clear hm1 hc1 hf1
        (try go_wp2_with fail)
        refine hK.out _ _ ?_ (fun hHeld => ?_)
        · exact ⟨bcl (n := W4.heap.size) (by go_grown) A_0 (by simp; try omega), bcl (n := W4.heap.size) (by go_grown) A_1 (by simp; try omega), bcl (n := W4.heap.size) (by go_grown) B_0 (by simp; try omega), bcl (n := W4.heap.size) (by go_grown) B_1 (by simp; try omega), bcl (n := W4.heap.size) (by go_grown) P_0 (by simp; try omega), bcl (n := W4.heap.size) (by go_grown) P_1 (by simp; try omega), bcl (n := W4.heap.size) (by go_grown) P_2 (by simp; try omega), bcl (n := W4.heap.size) (by go_grown) P_3 (by simp; try omega), bcl (n := W4.heap.size) (by go_grown) Q_0 (by simp; try omega), bcl (n := W4.heap.size) (by go_grown) Q_1 (by simp; try omega), bcl (n := W4.heap.size) (by go_grown) Q_2 (by simp; try omega), bcl (n := W4.heap.size) (by go_grown) Q_3 (by simp; try omega)⟩
        clear hK K
        try simp only [Act.put, List.setIfInBounds_toArray, List.set_cons_zero, List.set_cons_succ]
        refine wpAnyH_take (i := 15) (oi := ({ dst := some 50, op := Op.extract (Operand.tmp 49) 0, type := 45, pos := "ref.go:203", after := #[{ on := 14, ground := Ground.data }], guard := none } : Oper)) (v := ?yv215) rfl (by kernel_rfl) (by kernel_rfl) (by kernel_rfl) (fun _ _ _ h => h) (Or.inl ⟨by rfl, ?yh215⟩) (by assumption) ?yr215
        case yh215 => (intro wq hSw; (try dsimp only at hSw); go_simp; first | done | with_reducible rfl)
        simp only [Act.put, List.setIfInBounds_toArray, List.set_cons_zero, List.set_cons_succ]
        refine wpAnyH_take (i := 16) (oi := ({ dst := some 51, op := Op.extract (Operand.tmp 49) 1, type := 24, pos := "ref.go:203", after := #[{ on := 14, ground := Ground.data }], guard := none } : Oper)) (v := ?yv216) rfl (by kernel_rfl) (by kernel_rfl) (by kernel_rfl) (fun _ _ _ h => h) (Or.inl ⟨by rfl, ?yh216⟩) (by assumption) ?yr216
        case yh216 => (intro wq hSw; (try dsimp only at hSw); go_simp; first | done | with_reducible rfl)
        simp only [Act.put, List.setIfInBounds_toArray, List.set_cons_zero, List.set_cons_succ]
        refine wpAnyH_ready (rs := [17]) (by kernel_rfl) (by simp) ?_
        refine AllReadyH.cons (o := ({ dst := none, op := Op.store 45 (Operand.tmp 4) (Operand.tmp 50), type := 0, pos := "ref.go:203", after := #[{ on := 15, ground := Ground.data }, { on := 14, ground := Ground.chain }, { on := 0, ground := Ground.phase }, { on := 1, ground := Ground.phase }, { on := 2, ground := Ground.phase }, { on := 3, ground := Ground.phase }, { on := 4, ground := Ground.phase }, { on := 5, ground := Ground.phase }, { on := 6, ground := Ground.phase }, { on := 7, ground := Ground.phase }, { on := 8, ground := Ground.phase }, { on := 9, ground := Ground.phase }, { on := 10, ground := Ground.phase }, { on := 11, ground := Ground.phase }, { on := 12, ground := Ground.phase }, { on := 13, ground := Ground.phase }, { on := 14, ground := Ground.phase }, { on := 15, ground := Ground.phase }, { on := 16, ground := Ground.phase }], guard := none } : Oper)) rfl (fun K hK => ?_) AllReadyH.nil
        go_simp
        refine hK.out _ _ ?_ (fun hHeld => ?_)
        · exact ⟨kc2 hB1 A_0 l_A ne_A, kc2 hB1 A_1 l_A ne_A, kc2 hB1 B_0 l_B ne_B, kc2 hB1 B_1 l_B ne_B, kc2 hB1 P_0 l_P ne_P, kc2 hB1 P_1 l_P ne_P, kc2 hB1 P_2 l_P ne_P, kc2 hB1 P_3 l_P ne_P, kc2 hB1 Q_0 l_Q ne_Q, kc2 hB1 Q_1 l_Q ne_Q, kc2 hB1 Q_2 l_Q ne_Q, kc2 hB1 Q_3 l_Q ne_Q⟩
        clear hK K
        try simp only [Act.put, List.setIfInBounds_toArray, List.set_cons_zero, List.set_cons_succ]
        refine wpAnyH_take (i := 18) (oi := ({ dst := some 5, op := Op.assign (Operand.tmp 51), type := 24, pos := "ref.go:203", after := #[{ on := 16, ground := Ground.data }, { on := 17, ground := Ground.chain }, { on := 0, ground := Ground.phase }, { on := 1, ground := Ground.phase }, { on := 2, ground := Ground.phase }, { on := 3, ground := Ground.phase }, { on := 4, ground := Ground.phase }, { on := 5, ground := Ground.phase }, { on := 6, ground := Ground.phase }, { on := 7, ground := Ground.phase }, { on := 8, ground := Ground.phase }, { on := 9, ground := Ground.phase }, { on := 10, ground := Ground.phase }, { on := 11, ground := Ground.phase }, { on := 12, ground := Ground.phase }, { on := 13, ground := Ground.phase }, { on := 14, ground := Ground.phase }, { on := 15, ground := Ground.phase }, { on := 16, ground := Ground.phase }, { on := 17, ground := Ground.phase }], guard := none } : Oper)) (v := ?yv218) rfl (by kernel_rfl) (by kernel_rfl) (by kernel_rfl) (fun _ _ _ h => h) (Or.inl ⟨by rfl, ?yh218⟩) (by assumption) ?yr218
        case yh218 => (intro wq hSw; (try dsimp only at hSw); go_simp; first | done | with_reducible rfl)
        simp only [Act.put, List.setIfInBounds_toArray, List.set_cons_zero, List.set_cons_succ]
        refine wpAnyH_done (by kernel_rfl) ?_ _
        (try go_wp2)
        go_meet
        case rel =>
          have hBx : Below w.heap.size w w1 := hBW4.trans (hB1.mono hBW4.size)
          refine ⟨rfl, ?_, ?_⟩
          · first
              | exact (HR.out.below hB1 l_R).two _ _
              | exact ((HR.out.below hB1 l_R).two _ _).drewN _
              | (constructor <;> simp (maxDischargeDepth := 8) [go_sem, *])
          · exact (by repeat' (first | (with_reducible exact Below.refl _ _) | (with_reducible assumption) | (with_reducible refine bdrewN _ ?_) | (with_reducible refine Below.alloc ?_ ?_ _) | (with_reducible refine Below.setCell ?_ ?_ _) | (with_reducible refine Below.drew ?_) | go_size | (simp; omega)))
      case rest =>
        obtain ⟨rfl, b9, hB9⟩ := hcut
        obtain ⟨x0, x1, -, -⟩ := b9
        clear HM R_2 R_3 A_0 A_1 B_0 B_1 P_0 P_1 P_2 P_3 Q_0 Q_1 Q_2 Q_3 R_0 R_1 hBW4
        go_wp2
        refine bodyPost_ret (by simp [results, Tryz.results39, go_sem, x0, x1]; try rfl) rfl ?_
        exact ⟨rfl, hB9⟩
    · have HA : Hid (Blk2 W4 (w.heap.size) (a) (b)) := A
      have HB : Hid (Blk2 W4 (w.heap.size + 1) (c) (d)) := B
      have HR : Hid (Blk2 W4 (w.heap.size + 1 + 1) (0) (0)) := R
      have HP : Hid (Blk W4 (bP) (g0 (sz a * sz c)) (g1 (sz a * sz c)) (g2 (sz a * sz c)) (g3 (sz a * sz c))) := P
      have HQ : Hid (Blk W4 (w4.heap.size) (g0 (b * d)) (g1 (b * d)) (g2 (b * d)) (g3 (b * d))) := Q
      clear A B R P Q
      obtain ⟨A_0, A_1, -, -⟩ := HA.out
      obtain ⟨B_0, B_1, -, -⟩ := HB.out
      obtain ⟨P_0, P_1, P_2, P_3, -, -, -, -⟩ := HP.out
      obtain ⟨Q_0, Q_1, Q_2, Q_3, -, -, -, -⟩ := HQ.out
      obtain ⟨R_0, R_1, -, -⟩ := HR.out
      have R_2 := HR.out.f0
      have R_3 := HR.out.f1
      have e1 : decide (a < 0) = true := by simp; omega
      have e2 : decide (c < 0) = false := by simp; omega
      have heq : ∀ W : World, _ := fun W => eq_digF W _ _ _ _ 0 0 0 0 hn
      clear hn
      have ne_A : w.heap.size ≠ w.heap.size + 1 + 1 := by omega
      have ne_B : w.heap.size + 1 ≠ w.heap.size + 1 + 1 := by omega
      have ne_P : bP ≠ w.heap.size + 1 + 1 := by omega
      have ne_Q : w4.heap.size ≠ w.heap.size + 1 + 1 := by omega
      go_cut [5] (fun p wx => p = .int .i64 (rE (sg true (sz a * sz c)) (b * d)) ∧ Blk2 wx (w.heap.size + 1 + 1) (rN (sg true (sz a * sz c)) (b * d)) (rD (sg true (sz a * sz c)) (b * d)) ∧ Below w.heap.size w wx)
      case first =>
        refine wp_region_held_drew (S := fun w' => w'.cell? ⟨w.heap.size, 0, none⟩ = some (.int .i64 (a)) ∧ w'.cell? ⟨w.heap.size, 1, none⟩ = some (.int .i64 (b)) ∧ w'.cell? ⟨w.heap.size + 1, 0, none⟩ = some (.int .i64 (c)) ∧ w'.cell? ⟨w.heap.size + 1, 1, none⟩ = some (.int .i64 (d)) ∧ w'.cell? ⟨bP, 0, none⟩ = some (.int .u64 (g0 (sz a * sz c))) ∧ w'.cell? ⟨bP, 1, none⟩ = some (.int .u64 (g1 (sz a * sz c))) ∧ w'.cell? ⟨bP, 2, none⟩ = some (.int .u64 (g2 (sz a * sz c))) ∧ w'.cell? ⟨bP, 3, none⟩ = some (.int .u64 (g3 (sz a * sz c))) ∧ w'.cell? ⟨w4.heap.size, 0, none⟩ = some (.int .u64 (g0 (b * d))) ∧ w'.cell? ⟨w4.heap.size, 1, none⟩ = some (.int .u64 (g1 (b * d))) ∧ w'.cell? ⟨w4.heap.size, 2, none⟩ = some (.int .u64 (g2 (b * d))) ∧ w'.cell? ⟨w4.heap.size, 3, none⟩ = some (.int .u64 (g3 (b * d)))) (by kernel_rfl) ?_ (fun hHeld => ?_)
        · exact ⟨bcl (n := W4.heap.size) (by go_grown) A_0 (by simp; try omega), bcl (n := W4.heap.size) (by go_grown) A_1 (by simp; try omega), bcl (n := W4.heap.size) (by go_grown) B_0 (by simp; try omega), bcl (n := W4.heap.size) (by go_grown) B_1 (by simp; try omega), bcl (n := W4.heap.size) (by go_grown) P_0 (by simp; try omega), bcl (n := W4.heap.size) (by go_grown) P_1 (by simp; try omega), bcl (n := W4.heap.size) (by go_grown) P_2 (by simp; try omega), bcl (n := W4.heap.size) (by go_grown) P_3 (by simp; try omega), bcl (n := W4.heap.size) (by go_grown) Q_0 (by simp; try omega), bcl (n := W4.heap.size) (by go_grown) Q_1 (by simp; try omega), bcl (n := W4.heap.size) (by go_grown) Q_2 (by simp; try omega), bcl (n := W4.heap.size) (by go_grown) Q_3 (by simp; try omega)⟩
        refine wpAnyH_take (i := 0) (oi := ({ dst := some 35, op := Op.fieldAddr 45 (Operand.tmp 2) 0, type := 0, pos := "ref.go:203", after := #[], guard := none } : Oper)) (v := ?yv300) rfl (by kernel_rfl) (by kernel_rfl) (by kernel_rfl) (fun _ _ _ h => h) (Or.inl ⟨by rfl, ?yh300⟩) (by assumption) ?yr300
        case yh300 => (intro wq hSw; (try dsimp only at hSw); go_simp; first | done | with_reducible rfl)
        simp only [Act.put, List.setIfInBounds_toArray, List.set_cons_zero, List.set_cons_succ]
        refine wpAnyH_take (i := 1) (oi := ({ dst := some 36, op := Op.load 2 (Operand.tmp 35), type := 2, pos := "ref.go:203", after := #[{ on := 0, ground := Ground.data }], guard := none } : Oper)) (v := ?yv301) rfl (by kernel_rfl) (by kernel_rfl) (by kernel_rfl) (fun _ _ _ h => h) (Or.inl ⟨by rfl, ?yh301⟩) (by assumption) ?yr301
        case yh301 => (intro wq hSw; (try dsimp only at hSw); go_simp; first | done | with_reducible rfl)
        simp only [Act.put, List.setIfInBounds_toArray, List.set_cons_zero, List.set_cons_succ]
        refine wpAnyH_take (i := 2) (oi := ({ dst := some 37, op := Op.binOp BinOp.lss 2 (Operand.tmp 36) (Operand.const (Value.int IntKind.i64 0)) 2, type := 4, pos := "ref.go:203", after := #[{ on := 1, ground := Ground.data }], guard := none } : Oper)) (v := ?yv302) rfl (by kernel_rfl) (by kernel_rfl) (by kernel_rfl) (fun _ _ _ h => h) (Or.inl ⟨by rfl, ?yh302⟩) (by assumption) ?yr302
        case yh302 => (intro wq hSw; (try dsimp only at hSw); go_simp; first | done | with_reducible rfl)
        simp only [Act.put, List.setIfInBounds_toArray, List.set_cons_zero, List.set_cons_succ]
        refine wpAnyH_take (i := 3) (oi := ({ dst := some 38, op := Op.fieldAddr 45 (Operand.tmp 3) 0, type := 0, pos := "ref.go:203", after := #[], guard := none } : Oper)) (v := ?yv303) rfl (by kernel_rfl) (by kernel_rfl) (by kernel_rfl) (fun _ _ _ h => h) (Or.inl ⟨by rfl, ?yh303⟩) (by assumption) ?yr303
        case yh303 => (intro wq hSw; (try dsimp only at hSw); go_simp; first | done | with_reducible rfl)
        simp only [Act.put, List.setIfInBounds_toArray, List.set_cons_zero, List.set_cons_succ]
        refine wpAnyH_take (i := 4) (oi := ({ dst := some 39, op := Op.load 2 (Operand.tmp 38), type := 2, pos := "ref.go:203", after := #[{ on := 3, ground := Ground.data }], guard := none } : Oper)) (v := ?yv304) rfl (by kernel_rfl) (by kernel_rfl) (by kernel_rfl) (fun _ _ _ h => h) (Or.inl ⟨by rfl, ?yh304⟩) (by assumption) ?yr304
        case yh304 => (intro wq hSw; (try dsimp only at hSw); go_simp; first | done | with_reducible rfl)
        simp only [Act.put, List.setIfInBounds_toArray, List.set_cons_zero, List.set_cons_succ]
        refine wpAnyH_take (i := 5) (oi := ({ dst := some 40, op := Op.binOp BinOp.lss 2 (Operand.tmp 39) (Operand.const (Value.int IntKind.i64 0)) 2, type := 4, pos := "ref.go:203", after := #[{ on := 4, ground := Ground.data }], guard := none } : Oper)) (v := ?yv305) rfl (by kernel_rfl) (by kernel_rfl) (by kernel_rfl) (fun _ _ _ h => h) (Or.inl ⟨by rfl, ?yh305⟩) (by assumption) ?yr305
        case yh305 => (intro wq hSw; (try dsimp only at hSw); go_simp; first | done | with_reducible rfl)
        simp only [Act.put, List.setIfInBounds_toArray, List.set_cons_zero, List.set_cons_succ]
        refine wpAnyH_take (i := 6) (oi := ({ dst := some 41, op := Op.binOp BinOp.neq 4 (Operand.tmp 37) (Operand.tmp 40) 4, type := 4, pos := "ref.go:203", after := #[{ on := 2, ground := Ground.data }, { on := 5, ground := Ground.data }], guard := none } : Oper)) (v := ?yv306) rfl (by kernel_rfl) (by kernel_rfl) (by kernel_rfl) (fun _ _ _ h => h) (Or.inl ⟨by rfl, ?yh306⟩) (by assumption) ?yr306
        case yh306 => (intro wq hSw; (try dsimp only at hSw); go_simp; first | done | with_reducible rfl)
        simp only [Act.put, List.setIfInBounds_toArray, List.set_cons_zero, List.set_cons_succ]
        refine wpAnyH_take (i := 7) (oi := ({ dst := some 42, op := Op.move (Operand.tmp 41), type := 4, pos := "ref.go:203", after := #[{ on := 6, ground := Ground.data }], guard := none } : Oper)) (v := ?yv307) rfl (by kernel_rfl) (by kernel_rfl) (by kernel_rfl) (fun _ _ _ h => h) (Or.inl ⟨by rfl, ?yh307⟩) (by assumption) ?yr307
        case yh307 => (intro wq hSw; (try dsimp only at hSw); go_simp; first | done | with_reducible rfl)
        simp only [Act.put, List.setIfInBounds_toArray, List.set_cons_zero, List.set_cons_succ]
        refine wpAnyH_take (i := 8) (oi := ({ dst := some 43, op := Op.load 70 (Operand.tmp 8), type := 70, pos := "ref.go:203", after := #[{ on := 7, ground := Ground.guard }], guard := some (7, true) } : Oper)) (v := ?yv308) rfl (by kernel_rfl) (by kernel_rfl) (by kernel_rfl) (fun _ _ _ h => h) (Or.inl ⟨by rfl, ?yh308⟩) (by assumption) ?yr308
        case yh308 => (intro wq hSw; (try dsimp only at hSw); go_simp; first | done | with_reducible rfl)
        simp only [Act.put, List.setIfInBounds_toArray, List.set_cons_zero, List.set_cons_succ]
        refine wpAnyH_take (i := 9) (oi := ({ dst := some 44, op := Op.build 70 #[], type := 70, pos := "ref.go:203", after := #[{ on := 7, ground := Ground.guard }], guard := some (7, true) } : Oper)) (v := ?yv309) rfl (by kernel_rfl) (by kernel_rfl) (by kernel_rfl) (fun _ _ _ h => h) (Or.inl ⟨by rfl, ?yh309⟩) (by assumption) ?yr309
        case yh309 => (intro wq hSw; (try dsimp only at hSw); go_simp; first | done | with_reducible rfl)
        simp only [Act.put, List.setIfInBounds_toArray, List.set_cons_zero, List.set_cons_succ]
        refine wpAnyH_take (i := 10) (oi := ({ dst := some 45, op := Op.binOp BinOp.neq 70 (Operand.tmp 43) (Operand.tmp 44) 70, type := 4, pos := "ref.go:203", after := #[{ on := 8, ground := Ground.data }, { on := 9, ground := Ground.data }, { on := 7, ground := Ground.guard }], guard := some (7, true) } : Oper)) (v := ?yv310) rfl (by kernel_rfl) (by kernel_rfl) (by kernel_rfl) (fun _ _ _ h => h) (Or.inl ⟨by rfl, ?yh310⟩) (by assumption) ?yr310
        case yh310 => (intro wq hSw; (try dsimp only at hSw); go_simp; first | done | with_reducible rfl)
        simp only [Act.put, List.setIfInBounds_toArray, List.set_cons_zero, List.set_cons_succ]
        refine wpAnyH_take (i := 11) (oi := ({ dst := some 46, op := Op.pick (Operand.tmp 42) (Operand.tmp 45) (Operand.const (Value.bool false)), type := 4, pos := "ref.go:203", after := #[{ on := 7, ground := Ground.data }, { on := 10, ground := Ground.data }], guard := none } : Oper)) (v := ?yv311) rfl (by kernel_rfl) (by kernel_rfl) (by kernel_rfl) (fun _ _ _ h => h) (Or.inl ⟨by rfl, ?yh311⟩) (by assumption) ?yr311
        case yh311 => (intro wq hSw; (try dsimp only at hSw); go_simp; first | done | with_reducible rfl)
        simp only [Act.put, List.setIfInBounds_toArray, List.set_cons_zero, List.set_cons_succ]
        refine wpAnyH_take (i := 12) (oi := ({ dst := some 47, op := Op.load 70 (Operand.tmp 8), type := 70, pos := "ref.go:203", after := #[], guard := none } : Oper)) (v := ?yv312) rfl (by kernel_rfl) (by kernel_rfl) (by kernel_rfl) (fun _ _ _ h => h) (Or.inl ⟨by rfl, ?yh312⟩) (by assumption) ?yr312
        case yh312 => (intro wq hSw; (try dsimp only at hSw); go_simp; first | done | with_reducible rfl)
        simp only [Act.put, List.setIfInBounds_toArray, List.set_cons_zero, List.set_cons_succ]
        refine wpAnyH_take (i := 13) (oi := ({ dst := some 48, op := Op.load 70 (Operand.tmp 9), type := 70, pos := "ref.go:203", after := #[], guard := none } : Oper)) (v := ?yv313) rfl (by kernel_rfl) (by kernel_rfl) (by kernel_rfl) (fun _ _ _ h => h) (Or.inl ⟨by rfl, ?yh313⟩) (by assumption) ?yr313
        case yh313 => (intro wq hSw; (try dsimp only at hSw); go_simp; first | done | with_reducible rfl)
        simp only [Act.put, List.setIfInBounds_toArray, List.set_cons_zero, List.set_cons_succ]
        refine wpAnyH_ready (rs := [14]) (by kernel_rfl) (by simp) ?_
        refine AllReadyH.cons (o := ({ dst := some 49, op := Op.call { callee := Callee.value (Operand.func 54), args := #[Operand.tmp 46, Operand.tmp 47, Operand.tmp 48], argTypes := #[4, 70, 70] }, type := 53, pos := "ref.go:203", after := #[{ on := 11, ground := Ground.data }, { on := 12, ground := Ground.data }, { on := 13, ground := Ground.data }, { on := 7, ground := Ground.chain }], guard := none } : Oper)) rfl (fun K hK => ?_) AllReadyH.nil
        go_simp
        go_at_call 54; refine (HM.out _).mono ?_; rintro e w1 ⟨rfl, hb1⟩; obtain ⟨hc1, hf1, hz1, hB1, hn1, hm1⟩ := bg (n := W4.heap.size) (W0 := W4) (by go_grown) (by go_size) hb1; have z_R := hm1 _ l_R; have R0' := bcl hB1 R_0 l_R; have R1' := bcl hB1 R_1 l_R; have R2' := bfr hB1 R_2 l_R; have R3' := bfr hB1 R_3 l_R; clear hm1 hc1 hf1
        (try go_wp2_with fail)
        refine hK.out _ _ ?_ (fun hHeld => ?_)
        · exact ⟨bcl (n := W4.heap.size) (by go_grown) A_0 (by simp; try omega), bcl (n := W4.heap.size) (by go_grown) A_1 (by simp; try omega), bcl (n := W4.heap.size) (by go_grown) B_0 (by simp; try omega), bcl (n := W4.heap.size) (by go_grown) B_1 (by simp; try omega), bcl (n := W4.heap.size) (by go_grown) P_0 (by simp; try omega), bcl (n := W4.heap.size) (by go_grown) P_1 (by simp; try omega), bcl (n := W4.heap.size) (by go_grown) P_2 (by simp; try omega), bcl (n := W4.heap.size) (by go_grown) P_3 (by simp; try omega), bcl (n := W4.heap.size) (by go_grown) Q_0 (by simp; try omega), bcl (n := W4.heap.size) (by go_grown) Q_1 (by simp; try omega), bcl (n := W4.heap.size) (by go_grown) Q_2 (by simp; try omega), bcl (n := W4.heap.size) (by go_grown) Q_3 (by simp; try omega)⟩
        clear hK K
        try simp only [Act.put, List.setIfInBounds_toArray, List.set_cons_zero, List.set_cons_succ]
        refine wpAnyH_take (i := 15) (oi := ({ dst := some 50, op := Op.extract (Operand.tmp 49) 0, type := 45, pos := "ref.go:203", after := #[{ on := 14, ground := Ground.data }], guard := none } : Oper)) (v := ?yv315) rfl (by kernel_rfl) (by kernel_rfl) (by kernel_rfl) (fun _ _ _ h => h) (Or.inl ⟨by rfl, ?yh315⟩) (by assumption) ?yr315
        case yh315 => (intro wq hSw; (try dsimp only at hSw); go_simp; first | done | with_reducible rfl)
        simp only [Act.put, List.setIfInBounds_toArray, List.set_cons_zero, List.set_cons_succ]
        refine wpAnyH_take (i := 16) (oi := ({ dst := some 51, op := Op.extract (Operand.tmp 49) 1, type := 24, pos := "ref.go:203", after := #[{ on := 14, ground := Ground.data }], guard := none } : Oper)) (v := ?yv316) rfl (by kernel_rfl) (by kernel_rfl) (by kernel_rfl) (fun _ _ _ h => h) (Or.inl ⟨by rfl, ?yh316⟩) (by assumption) ?yr316
        case yh316 => (intro wq hSw; (try dsimp only at hSw); go_simp; first | done | with_reducible rfl)
        simp only [Act.put, List.setIfInBounds_toArray, List.set_cons_zero, List.set_cons_succ]
        refine wpAnyH_ready (rs := [17]) (by kernel_rfl) (by simp) ?_
        refine AllReadyH.cons (o := ({ dst := none, op := Op.store 45 (Operand.tmp 4) (Operand.tmp 50), type := 0, pos := "ref.go:203", after := #[{ on := 15, ground := Ground.data }, { on := 14, ground := Ground.chain }, { on := 0, ground := Ground.phase }, { on := 1, ground := Ground.phase }, { on := 2, ground := Ground.phase }, { on := 3, ground := Ground.phase }, { on := 4, ground := Ground.phase }, { on := 5, ground := Ground.phase }, { on := 6, ground := Ground.phase }, { on := 7, ground := Ground.phase }, { on := 8, ground := Ground.phase }, { on := 9, ground := Ground.phase }, { on := 10, ground := Ground.phase }, { on := 11, ground := Ground.phase }, { on := 12, ground := Ground.phase }, { on := 13, ground := Ground.phase }, { on := 14, ground := Ground.phase }, { on := 15, ground := Ground.phase }, { on := 16, ground := Ground.phase }], guard := none } : Oper)) rfl (fun K hK => ?_) AllReadyH.nil
        go_simp
        refine hK.out _ _ ?_ (fun hHeld => ?_)
        · exact ⟨kc2 hB1 A_0 l_A ne_A, kc2 hB1 A_1 l_A ne_A, kc2 hB1 B_0 l_B ne_B, kc2 hB1 B_1 l_B ne_B, kc2 hB1 P_0 l_P ne_P, kc2 hB1 P_1 l_P ne_P, kc2 hB1 P_2 l_P ne_P, kc2 hB1 P_3 l_P ne_P, kc2 hB1 Q_0 l_Q ne_Q, kc2 hB1 Q_1 l_Q ne_Q, kc2 hB1 Q_2 l_Q ne_Q, kc2 hB1 Q_3 l_Q ne_Q⟩
        clear hK K
        try simp only [Act.put, List.setIfInBounds_toArray, List.set_cons_zero, List.set_cons_succ]
        refine wpAnyH_take (i := 18) (oi := ({ dst := some 5, op := Op.assign (Operand.tmp 51), type := 24, pos := "ref.go:203", after := #[{ on := 16, ground := Ground.data }, { on := 17, ground := Ground.chain }, { on := 0, ground := Ground.phase }, { on := 1, ground := Ground.phase }, { on := 2, ground := Ground.phase }, { on := 3, ground := Ground.phase }, { on := 4, ground := Ground.phase }, { on := 5, ground := Ground.phase }, { on := 6, ground := Ground.phase }, { on := 7, ground := Ground.phase }, { on := 8, ground := Ground.phase }, { on := 9, ground := Ground.phase }, { on := 10, ground := Ground.phase }, { on := 11, ground := Ground.phase }, { on := 12, ground := Ground.phase }, { on := 13, ground := Ground.phase }, { on := 14, ground := Ground.phase }, { on := 15, ground := Ground.phase }, { on := 16, ground := Ground.phase }, { on := 17, ground := Ground.phase }], guard := none } : Oper)) (v := ?yv318) rfl (by kernel_rfl) (by kernel_rfl) (by kernel_rfl) (fun _ _ _ h => h) (Or.inl ⟨by rfl, ?yh318⟩) (by assumption) ?yr318
        case yh318 => (intro wq hSw; (try dsimp only at hSw); go_simp; first | done | with_reducible rfl)
        simp only [Act.put, List.setIfInBounds_toArray, List.set_cons_zero, List.set_cons_succ]
        refine wpAnyH_done (by kernel_rfl) ?_ _
        (try go_wp2)
        go_meet
        case rel =>
          have hBx : Below w.heap.size w w1 := hBW4.trans (hB1.mono hBW4.size)
          refine ⟨rfl, ?_, ?_⟩
          · first
              | exact (HR.out.below hB1 l_R).two _ _
              | exact ((HR.out.below hB1 l_R).two _ _).drewN _
              | (constructor <;> simp (maxDischargeDepth := 8) [go_sem, *])
          · exact (by repeat' (first | (with_reducible exact Below.refl _ _) | (with_reducible assumption) | (with_reducible refine bdrewN _ ?_) | (with_reducible refine Below.alloc ?_ ?_ _) | (with_reducible refine Below.setCell ?_ ?_ _) | (with_reducible refine Below.drew ?_) | go_size | (simp; omega)))
      case rest =>
        obtain ⟨rfl, b9, hB9⟩ := hcut
        obtain ⟨x0, x1, -, -⟩ := b9
        clear HM R_2 R_3 A_0 A_1 B_0 B_1 P_0 P_1 P_2 P_3 Q_0 Q_1 Q_2 Q_3 R_0 R_1 hBW4
        go_wp2
        refine bodyPost_ret (by simp [results, Tryz.results39, go_sem, x0, x1]; try rfl) rfl ?_
        exact ⟨rfl, hB9⟩
    · have HA : Hid (Blk2 W4 (w.heap.size) (a) (b)) := A
      have HB : Hid (Blk2 W4 (w.heap.size + 1) (c) (d)) := B
      have HR : Hid (Blk2 W4 (w.heap.size + 1 + 1) (0) (0)) := R
      have HP : Hid (Blk W4 (bP) (g0 (sz a * sz c)) (g1 (sz a * sz c)) (g2 (sz a * sz c)) (g3 (sz a * sz c))) := P
      have HQ : Hid (Blk W4 (w4.heap.size) (g0 (b * d)) (g1 (b * d)) (g2 (b * d)) (g3 (b * d))) := Q
      clear A B R P Q
      obtain ⟨A_0, A_1, -, -⟩ := HA.out
      obtain ⟨B_0, B_1, -, -⟩ := HB.out
      obtain ⟨P_0, P_1, P_2, P_3, -, -, -, -⟩ := HP.out
      obtain ⟨Q_0, Q_1, Q_2, Q_3, -, -, -, -⟩ := HQ.out
      obtain ⟨R_0, R_1, -, -⟩ := HR.out
      have R_2 := HR.out.f0
      have R_3 := HR.out.f1
      have e1 : decide (a < 0) = true := by simp; omega
      have e2 : decide (c < 0) = false := by simp; omega
      have heq : ∀ W : World, _ := fun W => eq_digT W 0 0 0 0
      rw [n0] at P_0
      rw [n1] at P_1
      rw [n2] at P_2
      rw [n3] at P_3
      rw [n0, n1, n2, n3] at HM
      clear n0 n1 n2 n3
      have ne_A : w.heap.size ≠ w.heap.size + 1 + 1 := by omega
      have ne_B : w.heap.size + 1 ≠ w.heap.size + 1 + 1 := by omega
      have ne_P : bP ≠ w.heap.size + 1 + 1 := by omega
      have ne_Q : w4.heap.size ≠ w.heap.size + 1 + 1 := by omega
      go_cut [5] (fun p wx => p = .int .i64 (rE (sg false (sz a * sz c)) (b * d)) ∧ Blk2 wx (w.heap.size + 1 + 1) (rN (sg false (sz a * sz c)) (b * d)) (rD (sg false (sz a * sz c)) (b * d)) ∧ Below w.heap.size w wx)
      case first =>
        refine wp_region_held_drew (S := fun w' => w'.cell? ⟨w.heap.size, 0, none⟩ = some (.int .i64 (a)) ∧ w'.cell? ⟨w.heap.size, 1, none⟩ = some (.int .i64 (b)) ∧ w'.cell? ⟨w.heap.size + 1, 0, none⟩ = some (.int .i64 (c)) ∧ w'.cell? ⟨w.heap.size + 1, 1, none⟩ = some (.int .i64 (d)) ∧ w'.cell? ⟨bP, 0, none⟩ = some (.int .u64 0) ∧ w'.cell? ⟨bP, 1, none⟩ = some (.int .u64 0) ∧ w'.cell? ⟨bP, 2, none⟩ = some (.int .u64 0) ∧ w'.cell? ⟨bP, 3, none⟩ = some (.int .u64 0) ∧ w'.cell? ⟨w4.heap.size, 0, none⟩ = some (.int .u64 (g0 (b * d))) ∧ w'.cell? ⟨w4.heap.size, 1, none⟩ = some (.int .u64 (g1 (b * d))) ∧ w'.cell? ⟨w4.heap.size, 2, none⟩ = some (.int .u64 (g2 (b * d))) ∧ w'.cell? ⟨w4.heap.size, 3, none⟩ = some (.int .u64 (g3 (b * d)))) (by kernel_rfl) ?_ (fun hHeld => ?_)
        · exact ⟨bcl (n := W4.heap.size) (by go_grown) A_0 (by simp; try omega), bcl (n := W4.heap.size) (by go_grown) A_1 (by simp; try omega), bcl (n := W4.heap.size) (by go_grown) B_0 (by simp; try omega), bcl (n := W4.heap.size) (by go_grown) B_1 (by simp; try omega), bcl (n := W4.heap.size) (by go_grown) P_0 (by simp; try omega), bcl (n := W4.heap.size) (by go_grown) P_1 (by simp; try omega), bcl (n := W4.heap.size) (by go_grown) P_2 (by simp; try omega), bcl (n := W4.heap.size) (by go_grown) P_3 (by simp; try omega), bcl (n := W4.heap.size) (by go_grown) Q_0 (by simp; try omega), bcl (n := W4.heap.size) (by go_grown) Q_1 (by simp; try omega), bcl (n := W4.heap.size) (by go_grown) Q_2 (by simp; try omega), bcl (n := W4.heap.size) (by go_grown) Q_3 (by simp; try omega)⟩
        refine wpAnyH_take (i := 0) (oi := ({ dst := some 35, op := Op.fieldAddr 45 (Operand.tmp 2) 0, type := 0, pos := "ref.go:203", after := #[], guard := none } : Oper)) (v := ?yv400) rfl (by kernel_rfl) (by kernel_rfl) (by kernel_rfl) (fun _ _ _ h => h) (Or.inl ⟨by rfl, ?yh400⟩) (by assumption) ?yr400
        case yh400 => (intro wq hSw; (try dsimp only at hSw); go_simp; first | done | with_reducible rfl)
        simp only [Act.put, List.setIfInBounds_toArray, List.set_cons_zero, List.set_cons_succ]
        refine wpAnyH_take (i := 1) (oi := ({ dst := some 36, op := Op.load 2 (Operand.tmp 35), type := 2, pos := "ref.go:203", after := #[{ on := 0, ground := Ground.data }], guard := none } : Oper)) (v := ?yv401) rfl (by kernel_rfl) (by kernel_rfl) (by kernel_rfl) (fun _ _ _ h => h) (Or.inl ⟨by rfl, ?yh401⟩) (by assumption) ?yr401
        case yh401 => (intro wq hSw; (try dsimp only at hSw); go_simp; first | done | with_reducible rfl)
        simp only [Act.put, List.setIfInBounds_toArray, List.set_cons_zero, List.set_cons_succ]
        refine wpAnyH_take (i := 2) (oi := ({ dst := some 37, op := Op.binOp BinOp.lss 2 (Operand.tmp 36) (Operand.const (Value.int IntKind.i64 0)) 2, type := 4, pos := "ref.go:203", after := #[{ on := 1, ground := Ground.data }], guard := none } : Oper)) (v := ?yv402) rfl (by kernel_rfl) (by kernel_rfl) (by kernel_rfl) (fun _ _ _ h => h) (Or.inl ⟨by rfl, ?yh402⟩) (by assumption) ?yr402
        case yh402 => (intro wq hSw; (try dsimp only at hSw); go_simp; first | done | with_reducible rfl)
        simp only [Act.put, List.setIfInBounds_toArray, List.set_cons_zero, List.set_cons_succ]
        refine wpAnyH_take (i := 3) (oi := ({ dst := some 38, op := Op.fieldAddr 45 (Operand.tmp 3) 0, type := 0, pos := "ref.go:203", after := #[], guard := none } : Oper)) (v := ?yv403) rfl (by kernel_rfl) (by kernel_rfl) (by kernel_rfl) (fun _ _ _ h => h) (Or.inl ⟨by rfl, ?yh403⟩) (by assumption) ?yr403
        case yh403 => (intro wq hSw; (try dsimp only at hSw); go_simp; first | done | with_reducible rfl)
        simp only [Act.put, List.setIfInBounds_toArray, List.set_cons_zero, List.set_cons_succ]
        refine wpAnyH_take (i := 4) (oi := ({ dst := some 39, op := Op.load 2 (Operand.tmp 38), type := 2, pos := "ref.go:203", after := #[{ on := 3, ground := Ground.data }], guard := none } : Oper)) (v := ?yv404) rfl (by kernel_rfl) (by kernel_rfl) (by kernel_rfl) (fun _ _ _ h => h) (Or.inl ⟨by rfl, ?yh404⟩) (by assumption) ?yr404
        case yh404 => (intro wq hSw; (try dsimp only at hSw); go_simp; first | done | with_reducible rfl)
        simp only [Act.put, List.setIfInBounds_toArray, List.set_cons_zero, List.set_cons_succ]
        refine wpAnyH_take (i := 5) (oi := ({ dst := some 40, op := Op.binOp BinOp.lss 2 (Operand.tmp 39) (Operand.const (Value.int IntKind.i64 0)) 2, type := 4, pos := "ref.go:203", after := #[{ on := 4, ground := Ground.data }], guard := none } : Oper)) (v := ?yv405) rfl (by kernel_rfl) (by kernel_rfl) (by kernel_rfl) (fun _ _ _ h => h) (Or.inl ⟨by rfl, ?yh405⟩) (by assumption) ?yr405
        case yh405 => (intro wq hSw; (try dsimp only at hSw); go_simp; first | done | with_reducible rfl)
        simp only [Act.put, List.setIfInBounds_toArray, List.set_cons_zero, List.set_cons_succ]
        refine wpAnyH_take (i := 6) (oi := ({ dst := some 41, op := Op.binOp BinOp.neq 4 (Operand.tmp 37) (Operand.tmp 40) 4, type := 4, pos := "ref.go:203", after := #[{ on := 2, ground := Ground.data }, { on := 5, ground := Ground.data }], guard := none } : Oper)) (v := ?yv406) rfl (by kernel_rfl) (by kernel_rfl) (by kernel_rfl) (fun _ _ _ h => h) (Or.inl ⟨by rfl, ?yh406⟩) (by assumption) ?yr406
        case yh406 => (intro wq hSw; (try dsimp only at hSw); go_simp; first | done | with_reducible rfl)
        simp only [Act.put, List.setIfInBounds_toArray, List.set_cons_zero, List.set_cons_succ]
        refine wpAnyH_take (i := 7) (oi := ({ dst := some 42, op := Op.move (Operand.tmp 41), type := 4, pos := "ref.go:203", after := #[{ on := 6, ground := Ground.data }], guard := none } : Oper)) (v := ?yv407) rfl (by kernel_rfl) (by kernel_rfl) (by kernel_rfl) (fun _ _ _ h => h) (Or.inl ⟨by rfl, ?yh407⟩) (by assumption) ?yr407
        case yh407 => (intro wq hSw; (try dsimp only at hSw); go_simp; first | done | with_reducible rfl)
        simp only [Act.put, List.setIfInBounds_toArray, List.set_cons_zero, List.set_cons_succ]
        refine wpAnyH_take (i := 8) (oi := ({ dst := some 43, op := Op.load 70 (Operand.tmp 8), type := 70, pos := "ref.go:203", after := #[{ on := 7, ground := Ground.guard }], guard := some (7, true) } : Oper)) (v := ?yv408) rfl (by kernel_rfl) (by kernel_rfl) (by kernel_rfl) (fun _ _ _ h => h) (Or.inl ⟨by rfl, ?yh408⟩) (by assumption) ?yr408
        case yh408 => (intro wq hSw; (try dsimp only at hSw); go_simp; first | done | with_reducible rfl)
        simp only [Act.put, List.setIfInBounds_toArray, List.set_cons_zero, List.set_cons_succ]
        refine wpAnyH_take (i := 9) (oi := ({ dst := some 44, op := Op.build 70 #[], type := 70, pos := "ref.go:203", after := #[{ on := 7, ground := Ground.guard }], guard := some (7, true) } : Oper)) (v := ?yv409) rfl (by kernel_rfl) (by kernel_rfl) (by kernel_rfl) (fun _ _ _ h => h) (Or.inl ⟨by rfl, ?yh409⟩) (by assumption) ?yr409
        case yh409 => (intro wq hSw; (try dsimp only at hSw); go_simp; first | done | with_reducible rfl)
        simp only [Act.put, List.setIfInBounds_toArray, List.set_cons_zero, List.set_cons_succ]
        refine wpAnyH_take (i := 10) (oi := ({ dst := some 45, op := Op.binOp BinOp.neq 70 (Operand.tmp 43) (Operand.tmp 44) 70, type := 4, pos := "ref.go:203", after := #[{ on := 8, ground := Ground.data }, { on := 9, ground := Ground.data }, { on := 7, ground := Ground.guard }], guard := some (7, true) } : Oper)) (v := ?yv410) rfl (by kernel_rfl) (by kernel_rfl) (by kernel_rfl) (fun _ _ _ h => h) (Or.inl ⟨by rfl, ?yh410⟩) (by assumption) ?yr410
        case yh410 => (intro wq hSw; (try dsimp only at hSw); go_simp; first | done | with_reducible rfl)
        simp only [Act.put, List.setIfInBounds_toArray, List.set_cons_zero, List.set_cons_succ]
        refine wpAnyH_take (i := 11) (oi := ({ dst := some 46, op := Op.pick (Operand.tmp 42) (Operand.tmp 45) (Operand.const (Value.bool false)), type := 4, pos := "ref.go:203", after := #[{ on := 7, ground := Ground.data }, { on := 10, ground := Ground.data }], guard := none } : Oper)) (v := ?yv411) rfl (by kernel_rfl) (by kernel_rfl) (by kernel_rfl) (fun _ _ _ h => h) (Or.inl ⟨by rfl, ?yh411⟩) (by assumption) ?yr411
        case yh411 => (intro wq hSw; (try dsimp only at hSw); go_simp; first | done | with_reducible rfl)
        simp only [Act.put, List.setIfInBounds_toArray, List.set_cons_zero, List.set_cons_succ]
        refine wpAnyH_take (i := 12) (oi := ({ dst := some 47, op := Op.load 70 (Operand.tmp 8), type := 70, pos := "ref.go:203", after := #[], guard := none } : Oper)) (v := ?yv412) rfl (by kernel_rfl) (by kernel_rfl) (by kernel_rfl) (fun _ _ _ h => h) (Or.inl ⟨by rfl, ?yh412⟩) (by assumption) ?yr412
        case yh412 => (intro wq hSw; (try dsimp only at hSw); go_simp; first | done | with_reducible rfl)
        simp only [Act.put, List.setIfInBounds_toArray, List.set_cons_zero, List.set_cons_succ]
        refine wpAnyH_take (i := 13) (oi := ({ dst := some 48, op := Op.load 70 (Operand.tmp 9), type := 70, pos := "ref.go:203", after := #[], guard := none } : Oper)) (v := ?yv413) rfl (by kernel_rfl) (by kernel_rfl) (by kernel_rfl) (fun _ _ _ h => h) (Or.inl ⟨by rfl, ?yh413⟩) (by assumption) ?yr413
        case yh413 => (intro wq hSw; (try dsimp only at hSw); go_simp; first | done | with_reducible rfl)
        simp only [Act.put, List.setIfInBounds_toArray, List.set_cons_zero, List.set_cons_succ]
        refine wpAnyH_ready (rs := [14]) (by kernel_rfl) (by simp) ?_
        refine AllReadyH.cons (o := ({ dst := some 49, op := Op.call { callee := Callee.value (Operand.func 54), args := #[Operand.tmp 46, Operand.tmp 47, Operand.tmp 48], argTypes := #[4, 70, 70] }, type := 53, pos := "ref.go:203", after := #[{ on := 11, ground := Ground.data }, { on := 12, ground := Ground.data }, { on := 13, ground := Ground.data }, { on := 7, ground := Ground.chain }], guard := none } : Oper)) rfl (fun K hK => ?_) AllReadyH.nil
        go_simp
        go_at_call 54; refine (HM.out _).mono ?_; rintro e w1 ⟨rfl, hb1⟩; obtain ⟨hc1, hf1, hz1, hB1, hn1, hm1⟩ := bg (n := W4.heap.size) (W0 := W4) (by go_grown) (by go_size) hb1; have z_R := hm1 _ l_R; have R0' := bcl hB1 R_0 l_R; have R1' := bcl hB1 R_1 l_R; have R2' := bfr hB1 R_2 l_R; have R3' := bfr hB1 R_3 l_R; clear hm1 hc1 hf1
        (try go_wp2_with fail)
        refine hK.out _ _ ?_ (fun hHeld => ?_)
        · exact ⟨bcl (n := W4.heap.size) (by go_grown) A_0 (by simp; try omega), bcl (n := W4.heap.size) (by go_grown) A_1 (by simp; try omega), bcl (n := W4.heap.size) (by go_grown) B_0 (by simp; try omega), bcl (n := W4.heap.size) (by go_grown) B_1 (by simp; try omega), bcl (n := W4.heap.size) (by go_grown) P_0 (by simp; try omega), bcl (n := W4.heap.size) (by go_grown) P_1 (by simp; try omega), bcl (n := W4.heap.size) (by go_grown) P_2 (by simp; try omega), bcl (n := W4.heap.size) (by go_grown) P_3 (by simp; try omega), bcl (n := W4.heap.size) (by go_grown) Q_0 (by simp; try omega), bcl (n := W4.heap.size) (by go_grown) Q_1 (by simp; try omega), bcl (n := W4.heap.size) (by go_grown) Q_2 (by simp; try omega), bcl (n := W4.heap.size) (by go_grown) Q_3 (by simp; try omega)⟩
        clear hK K
        try simp only [Act.put, List.setIfInBounds_toArray, List.set_cons_zero, List.set_cons_succ]
        refine wpAnyH_take (i := 15) (oi := ({ dst := some 50, op := Op.extract (Operand.tmp 49) 0, type := 45, pos := "ref.go:203", after := #[{ on := 14, ground := Ground.data }], guard := none } : Oper)) (v := ?yv415) rfl (by kernel_rfl) (by kernel_rfl) (by kernel_rfl) (fun _ _ _ h => h) (Or.inl ⟨by rfl, ?yh415⟩) (by assumption) ?yr415
        case yh415 => (intro wq hSw; (try dsimp only at hSw); go_simp; first | done | with_reducible rfl)
        simp only [Act.put, List.setIfInBounds_toArray, List.set_cons_zero, List.set_cons_succ]
        refine wpAnyH_take (i := 16) (oi := ({ dst := some 51, op := Op.extract (Operand.tmp 49) 1, type := 24, pos := "ref.go:203", after := #[{ on := 14, ground := Ground.data }], guard := none } : Oper)) (v := ?yv416) rfl (by kernel_rfl) (by kernel_rfl) (by kernel_rfl) (fun _ _ _ h => h) (Or.inl ⟨by rfl, ?yh416⟩) (by assumption) ?yr416
        case yh416 => (intro wq hSw; (try dsimp only at hSw); go_simp; first | done | with_reducible rfl)
        simp only [Act.put, List.setIfInBounds_toArray, List.set_cons_zero, List.set_cons_succ]
        refine wpAnyH_ready (rs := [17]) (by kernel_rfl) (by simp) ?_
        refine AllReadyH.cons (o := ({ dst := none, op := Op.store 45 (Operand.tmp 4) (Operand.tmp 50), type := 0, pos := "ref.go:203", after := #[{ on := 15, ground := Ground.data }, { on := 14, ground := Ground.chain }, { on := 0, ground := Ground.phase }, { on := 1, ground := Ground.phase }, { on := 2, ground := Ground.phase }, { on := 3, ground := Ground.phase }, { on := 4, ground := Ground.phase }, { on := 5, ground := Ground.phase }, { on := 6, ground := Ground.phase }, { on := 7, ground := Ground.phase }, { on := 8, ground := Ground.phase }, { on := 9, ground := Ground.phase }, { on := 10, ground := Ground.phase }, { on := 11, ground := Ground.phase }, { on := 12, ground := Ground.phase }, { on := 13, ground := Ground.phase }, { on := 14, ground := Ground.phase }, { on := 15, ground := Ground.phase }, { on := 16, ground := Ground.phase }], guard := none } : Oper)) rfl (fun K hK => ?_) AllReadyH.nil
        go_simp
        refine hK.out _ _ ?_ (fun hHeld => ?_)
        · exact ⟨kc2 hB1 A_0 l_A ne_A, kc2 hB1 A_1 l_A ne_A, kc2 hB1 B_0 l_B ne_B, kc2 hB1 B_1 l_B ne_B, kc2 hB1 P_0 l_P ne_P, kc2 hB1 P_1 l_P ne_P, kc2 hB1 P_2 l_P ne_P, kc2 hB1 P_3 l_P ne_P, kc2 hB1 Q_0 l_Q ne_Q, kc2 hB1 Q_1 l_Q ne_Q, kc2 hB1 Q_2 l_Q ne_Q, kc2 hB1 Q_3 l_Q ne_Q⟩
        clear hK K
        try simp only [Act.put, List.setIfInBounds_toArray, List.set_cons_zero, List.set_cons_succ]
        refine wpAnyH_take (i := 18) (oi := ({ dst := some 5, op := Op.assign (Operand.tmp 51), type := 24, pos := "ref.go:203", after := #[{ on := 16, ground := Ground.data }, { on := 17, ground := Ground.chain }, { on := 0, ground := Ground.phase }, { on := 1, ground := Ground.phase }, { on := 2, ground := Ground.phase }, { on := 3, ground := Ground.phase }, { on := 4, ground := Ground.phase }, { on := 5, ground := Ground.phase }, { on := 6, ground := Ground.phase }, { on := 7, ground := Ground.phase }, { on := 8, ground := Ground.phase }, { on := 9, ground := Ground.phase }, { on := 10, ground := Ground.phase }, { on := 11, ground := Ground.phase }, { on := 12, ground := Ground.phase }, { on := 13, ground := Ground.phase }, { on := 14, ground := Ground.phase }, { on := 15, ground := Ground.phase }, { on := 16, ground := Ground.phase }, { on := 17, ground := Ground.phase }], guard := none } : Oper)) (v := ?yv418) rfl (by kernel_rfl) (by kernel_rfl) (by kernel_rfl) (fun _ _ _ h => h) (Or.inl ⟨by rfl, ?yh418⟩) (by assumption) ?yr418
        case yh418 => (intro wq hSw; (try dsimp only at hSw); go_simp; first | done | with_reducible rfl)
        simp only [Act.put, List.setIfInBounds_toArray, List.set_cons_zero, List.set_cons_succ]
        refine wpAnyH_done (by kernel_rfl) ?_ _
        (try go_wp2)
        go_meet
        case rel =>
          have hBx : Below w.heap.size w w1 := hBW4.trans (hB1.mono hBW4.size)
          refine ⟨rfl, ?_, ?_⟩
          · first
              | exact (HR.out.below hB1 l_R).two _ _
              | exact ((HR.out.below hB1 l_R).two _ _).drewN _
              | (constructor <;> simp (maxDischargeDepth := 8) [go_sem, *])
          · exact (by repeat' (first | (with_reducible exact Below.refl _ _) | (with_reducible assumption) | (with_reducible refine bdrewN _ ?_) | (with_reducible refine Below.alloc ?_ ?_ _) | (with_reducible refine Below.setCell ?_ ?_ _) | (with_reducible refine Below.drew ?_) | go_size | (simp; omega)))
      case rest =>
        obtain ⟨rfl, b9, hB9⟩ := hcut
        obtain ⟨x0, x1, -, -⟩ := b9
        clear HM R_2 R_3 A_0 A_1 B_0 B_1 P_0 P_1 P_2 P_3 Q_0 Q_1 Q_2 Q_3 R_0 R_1 hBW4
        go_wp2
        refine bodyPost_ret (by simp [results, Tryz.results39, go_sem, x0, x1]; try rfl) rfl ?_
        exact ⟨rfl, hB9⟩
    · have HA : Hid (Blk2 W4 (w.heap.size) (a) (b)) := A
      have HB : Hid (Blk2 W4 (w.heap.size + 1) (c) (d)) := B
      have HR : Hid (Blk2 W4 (w.heap.size + 1 + 1) (0) (0)) := R
      have HP : Hid (Blk W4 (bP) (g0 (sz a * sz c)) (g1 (sz a * sz c)) (g2 (sz a * sz c)) (g3 (sz a * sz c))) := P
      have HQ : Hid (Blk W4 (w4.heap.size) (g0 (b * d)) (g1 (b * d)) (g2 (b * d)) (g3 (b * d))) := Q
      clear A B R P Q
      obtain ⟨A_0, A_1, -, -⟩ := HA.out
      obtain ⟨B_0, B_1, -, -⟩ := HB.out
      obtain ⟨P_0, P_1, P_2, P_3, -, -, -, -⟩ := HP.out
      obtain ⟨Q_0, Q_1, Q_2, Q_3, -, -, -, -⟩ := HQ.out
      obtain ⟨R_0, R_1, -, -⟩ := HR.out
      have R_2 := HR.out.f0
      have R_3 := HR.out.f1
      have e1 : decide (a < 0) = false := by simp; omega
      have e2 : decide (c < 0) = true := by simp; omega
      have heq : ∀ W : World, _ := fun W => eq_digF W _ _ _ _ 0 0 0 0 hn
      clear hn
      have ne_A : w.heap.size ≠ w.heap.size + 1 + 1 := by omega
      have ne_B : w.heap.size + 1 ≠ w.heap.size + 1 + 1 := by omega
      have ne_P : bP ≠ w.heap.size + 1 + 1 := by omega
      have ne_Q : w4.heap.size ≠ w.heap.size + 1 + 1 := by omega
      go_cut [5] (fun p wx => p = .int .i64 (rE (sg true (sz a * sz c)) (b * d)) ∧ Blk2 wx (w.heap.size + 1 + 1) (rN (sg true (sz a * sz c)) (b * d)) (rD (sg true (sz a * sz c)) (b * d)) ∧ Below w.heap.size w wx)
      case first =>
        refine wp_region_held_drew (S := fun w' => w'.cell? ⟨w.heap.size, 0, none⟩ = some (.int .i64 (a)) ∧ w'.cell? ⟨w.heap.size, 1, none⟩ = some (.int .i64 (b)) ∧ w'.cell? ⟨w.heap.size + 1, 0, none⟩ = some (.int .i64 (c)) ∧ w'.cell? ⟨w.heap.size + 1, 1, none⟩ = some (.int .i64 (d)) ∧ w'.cell? ⟨bP, 0, none⟩ = some (.int .u64 (g0 (sz a * sz c))) ∧ w'.cell? ⟨bP, 1, none⟩ = some (.int .u64 (g1 (sz a * sz c))) ∧ w'.cell? ⟨bP, 2, none⟩ = some (.int .u64 (g2 (sz a * sz c))) ∧ w'.cell? ⟨bP, 3, none⟩ = some (.int .u64 (g3 (sz a * sz c))) ∧ w'.cell? ⟨w4.heap.size, 0, none⟩ = some (.int .u64 (g0 (b * d))) ∧ w'.cell? ⟨w4.heap.size, 1, none⟩ = some (.int .u64 (g1 (b * d))) ∧ w'.cell? ⟨w4.heap.size, 2, none⟩ = some (.int .u64 (g2 (b * d))) ∧ w'.cell? ⟨w4.heap.size, 3, none⟩ = some (.int .u64 (g3 (b * d)))) (by kernel_rfl) ?_ (fun hHeld => ?_)
        · exact ⟨bcl (n := W4.heap.size) (by go_grown) A_0 (by simp; try omega), bcl (n := W4.heap.size) (by go_grown) A_1 (by simp; try omega), bcl (n := W4.heap.size) (by go_grown) B_0 (by simp; try omega), bcl (n := W4.heap.size) (by go_grown) B_1 (by simp; try omega), bcl (n := W4.heap.size) (by go_grown) P_0 (by simp; try omega), bcl (n := W4.heap.size) (by go_grown) P_1 (by simp; try omega), bcl (n := W4.heap.size) (by go_grown) P_2 (by simp; try omega), bcl (n := W4.heap.size) (by go_grown) P_3 (by simp; try omega), bcl (n := W4.heap.size) (by go_grown) Q_0 (by simp; try omega), bcl (n := W4.heap.size) (by go_grown) Q_1 (by simp; try omega), bcl (n := W4.heap.size) (by go_grown) Q_2 (by simp; try omega), bcl (n := W4.heap.size) (by go_grown) Q_3 (by simp; try omega)⟩
        refine wpAnyH_take (i := 0) (oi := ({ dst := some 35, op := Op.fieldAddr 45 (Operand.tmp 2) 0, type := 0, pos := "ref.go:203", after := #[], guard := none } : Oper)) (v := ?yv500) rfl (by kernel_rfl) (by kernel_rfl) (by kernel_rfl) (fun _ _ _ h => h) (Or.inl ⟨by rfl, ?yh500⟩) (by assumption) ?yr500
        case yh500 => (intro wq hSw; (try dsimp only at hSw); go_simp; first | done | with_reducible rfl)
        simp only [Act.put, List.setIfInBounds_toArray, List.set_cons_zero, List.set_cons_succ]
        refine wpAnyH_take (i := 1) (oi := ({ dst := some 36, op := Op.load 2 (Operand.tmp 35), type := 2, pos := "ref.go:203", after := #[{ on := 0, ground := Ground.data }], guard := none } : Oper)) (v := ?yv501) rfl (by kernel_rfl) (by kernel_rfl) (by kernel_rfl) (fun _ _ _ h => h) (Or.inl ⟨by rfl, ?yh501⟩) (by assumption) ?yr501
        case yh501 => (intro wq hSw; (try dsimp only at hSw); go_simp; first | done | with_reducible rfl)
        simp only [Act.put, List.setIfInBounds_toArray, List.set_cons_zero, List.set_cons_succ]
        refine wpAnyH_take (i := 2) (oi := ({ dst := some 37, op := Op.binOp BinOp.lss 2 (Operand.tmp 36) (Operand.const (Value.int IntKind.i64 0)) 2, type := 4, pos := "ref.go:203", after := #[{ on := 1, ground := Ground.data }], guard := none } : Oper)) (v := ?yv502) rfl (by kernel_rfl) (by kernel_rfl) (by kernel_rfl) (fun _ _ _ h => h) (Or.inl ⟨by rfl, ?yh502⟩) (by assumption) ?yr502
        case yh502 => (intro wq hSw; (try dsimp only at hSw); go_simp; first | done | with_reducible rfl)
        simp only [Act.put, List.setIfInBounds_toArray, List.set_cons_zero, List.set_cons_succ]
        refine wpAnyH_take (i := 3) (oi := ({ dst := some 38, op := Op.fieldAddr 45 (Operand.tmp 3) 0, type := 0, pos := "ref.go:203", after := #[], guard := none } : Oper)) (v := ?yv503) rfl (by kernel_rfl) (by kernel_rfl) (by kernel_rfl) (fun _ _ _ h => h) (Or.inl ⟨by rfl, ?yh503⟩) (by assumption) ?yr503
        case yh503 => (intro wq hSw; (try dsimp only at hSw); go_simp; first | done | with_reducible rfl)
        simp only [Act.put, List.setIfInBounds_toArray, List.set_cons_zero, List.set_cons_succ]
        refine wpAnyH_take (i := 4) (oi := ({ dst := some 39, op := Op.load 2 (Operand.tmp 38), type := 2, pos := "ref.go:203", after := #[{ on := 3, ground := Ground.data }], guard := none } : Oper)) (v := ?yv504) rfl (by kernel_rfl) (by kernel_rfl) (by kernel_rfl) (fun _ _ _ h => h) (Or.inl ⟨by rfl, ?yh504⟩) (by assumption) ?yr504
        case yh504 => (intro wq hSw; (try dsimp only at hSw); go_simp; first | done | with_reducible rfl)
        simp only [Act.put, List.setIfInBounds_toArray, List.set_cons_zero, List.set_cons_succ]
        refine wpAnyH_take (i := 5) (oi := ({ dst := some 40, op := Op.binOp BinOp.lss 2 (Operand.tmp 39) (Operand.const (Value.int IntKind.i64 0)) 2, type := 4, pos := "ref.go:203", after := #[{ on := 4, ground := Ground.data }], guard := none } : Oper)) (v := ?yv505) rfl (by kernel_rfl) (by kernel_rfl) (by kernel_rfl) (fun _ _ _ h => h) (Or.inl ⟨by rfl, ?yh505⟩) (by assumption) ?yr505
        case yh505 => (intro wq hSw; (try dsimp only at hSw); go_simp; first | done | with_reducible rfl)
        simp only [Act.put, List.setIfInBounds_toArray, List.set_cons_zero, List.set_cons_succ]
        refine wpAnyH_take (i := 6) (oi := ({ dst := some 41, op := Op.binOp BinOp.neq 4 (Operand.tmp 37) (Operand.tmp 40) 4, type := 4, pos := "ref.go:203", after := #[{ on := 2, ground := Ground.data }, { on := 5, ground := Ground.data }], guard := none } : Oper)) (v := ?yv506) rfl (by kernel_rfl) (by kernel_rfl) (by kernel_rfl) (fun _ _ _ h => h) (Or.inl ⟨by rfl, ?yh506⟩) (by assumption) ?yr506
        case yh506 => (intro wq hSw; (try dsimp only at hSw); go_simp; first | done | with_reducible rfl)
        simp only [Act.put, List.setIfInBounds_toArray, List.set_cons_zero, List.set_cons_succ]
        refine wpAnyH_take (i := 7) (oi := ({ dst := some 42, op := Op.move (Operand.tmp 41), type := 4, pos := "ref.go:203", after := #[{ on := 6, ground := Ground.data }], guard := none } : Oper)) (v := ?yv507) rfl (by kernel_rfl) (by kernel_rfl) (by kernel_rfl) (fun _ _ _ h => h) (Or.inl ⟨by rfl, ?yh507⟩) (by assumption) ?yr507
        case yh507 => (intro wq hSw; (try dsimp only at hSw); go_simp; first | done | with_reducible rfl)
        simp only [Act.put, List.setIfInBounds_toArray, List.set_cons_zero, List.set_cons_succ]
        refine wpAnyH_take (i := 8) (oi := ({ dst := some 43, op := Op.load 70 (Operand.tmp 8), type := 70, pos := "ref.go:203", after := #[{ on := 7, ground := Ground.guard }], guard := some (7, true) } : Oper)) (v := ?yv508) rfl (by kernel_rfl) (by kernel_rfl) (by kernel_rfl) (fun _ _ _ h => h) (Or.inl ⟨by rfl, ?yh508⟩) (by assumption) ?yr508
        case yh508 => (intro wq hSw; (try dsimp only at hSw); go_simp; first | done | with_reducible rfl)
        simp only [Act.put, List.setIfInBounds_toArray, List.set_cons_zero, List.set_cons_succ]
        refine wpAnyH_take (i := 9) (oi := ({ dst := some 44, op := Op.build 70 #[], type := 70, pos := "ref.go:203", after := #[{ on := 7, ground := Ground.guard }], guard := some (7, true) } : Oper)) (v := ?yv509) rfl (by kernel_rfl) (by kernel_rfl) (by kernel_rfl) (fun _ _ _ h => h) (Or.inl ⟨by rfl, ?yh509⟩) (by assumption) ?yr509
        case yh509 => (intro wq hSw; (try dsimp only at hSw); go_simp; first | done | with_reducible rfl)
        simp only [Act.put, List.setIfInBounds_toArray, List.set_cons_zero, List.set_cons_succ]
        refine wpAnyH_take (i := 10) (oi := ({ dst := some 45, op := Op.binOp BinOp.neq 70 (Operand.tmp 43) (Operand.tmp 44) 70, type := 4, pos := "ref.go:203", after := #[{ on := 8, ground := Ground.data }, { on := 9, ground := Ground.data }, { on := 7, ground := Ground.guard }], guard := some (7, true) } : Oper)) (v := ?yv510) rfl (by kernel_rfl) (by kernel_rfl) (by kernel_rfl) (fun _ _ _ h => h) (Or.inl ⟨by rfl, ?yh510⟩) (by assumption) ?yr510
        case yh510 => (intro wq hSw; (try dsimp only at hSw); go_simp; first | done | with_reducible rfl)
        simp only [Act.put, List.setIfInBounds_toArray, List.set_cons_zero, List.set_cons_succ]
        refine wpAnyH_take (i := 11) (oi := ({ dst := some 46, op := Op.pick (Operand.tmp 42) (Operand.tmp 45) (Operand.const (Value.bool false)), type := 4, pos := "ref.go:203", after := #[{ on := 7, ground := Ground.data }, { on := 10, ground := Ground.data }], guard := none } : Oper)) (v := ?yv511) rfl (by kernel_rfl) (by kernel_rfl) (by kernel_rfl) (fun _ _ _ h => h) (Or.inl ⟨by rfl, ?yh511⟩) (by assumption) ?yr511
        case yh511 => (intro wq hSw; (try dsimp only at hSw); go_simp; first | done | with_reducible rfl)
        simp only [Act.put, List.setIfInBounds_toArray, List.set_cons_zero, List.set_cons_succ]
        refine wpAnyH_take (i := 12) (oi := ({ dst := some 47, op := Op.load 70 (Operand.tmp 8), type := 70, pos := "ref.go:203", after := #[], guard := none } : Oper)) (v := ?yv512) rfl (by kernel_rfl) (by kernel_rfl) (by kernel_rfl) (fun _ _ _ h => h) (Or.inl ⟨by rfl, ?yh512⟩) (by assumption) ?yr512
        case yh512 => (intro wq hSw; (try dsimp only at hSw); go_simp; first | done | with_reducible rfl)
        simp only [Act.put, List.setIfInBounds_toArray, List.set_cons_zero, List.set_cons_succ]
        refine wpAnyH_take (i := 13) (oi := ({ dst := some 48, op := Op.load 70 (Operand.tmp 9), type := 70, pos := "ref.go:203", after := #[], guard := none } : Oper)) (v := ?yv513) rfl (by kernel_rfl) (by kernel_rfl) (by kernel_rfl) (fun _ _ _ h => h) (Or.inl ⟨by rfl, ?yh513⟩) (by assumption) ?yr513
        case yh513 => (intro wq hSw; (try dsimp only at hSw); go_simp; first | done | with_reducible rfl)
        simp only [Act.put, List.setIfInBounds_toArray, List.set_cons_zero, List.set_cons_succ]
        refine wpAnyH_ready (rs := [14]) (by kernel_rfl) (by simp) ?_
        refine AllReadyH.cons (o := ({ dst := some 49, op := Op.call { callee := Callee.value (Operand.func 54), args := #[Operand.tmp 46, Operand.tmp 47, Operand.tmp 48], argTypes := #[4, 70, 70] }, type := 53, pos := "ref.go:203", after := #[{ on := 11, ground := Ground.data }, { on := 12, ground := Ground.data }, { on := 13, ground := Ground.data }, { on := 7, ground := Ground.chain }], guard := none } : Oper)) rfl (fun K hK => ?_) AllReadyH.nil
        go_simp
        go_at_call 54; refine (HM.out _).mono ?_; rintro e w1 ⟨rfl, hb1⟩; obtain ⟨hc1, hf1, hz1, hB1, hn1, hm1⟩ := bg (n := W4.heap.size) (W0 := W4) (by go_grown) (by go_size) hb1; have z_R := hm1 _ l_R; have R0' := bcl hB1 R_0 l_R; have R1' := bcl hB1 R_1 l_R; have R2' := bfr hB1 R_2 l_R; have R3' := bfr hB1 R_3 l_R; clear hm1 hc1 hf1
        (try go_wp2_with fail)
        refine hK.out _ _ ?_ (fun hHeld => ?_)
        · exact ⟨bcl (n := W4.heap.size) (by go_grown) A_0 (by simp; try omega), bcl (n := W4.heap.size) (by go_grown) A_1 (by simp; try omega), bcl (n := W4.heap.size) (by go_grown) B_0 (by simp; try omega), bcl (n := W4.heap.size) (by go_grown) B_1 (by simp; try omega), bcl (n := W4.heap.size) (by go_grown) P_0 (by simp; try omega), bcl (n := W4.heap.size) (by go_grown) P_1 (by simp; try omega), bcl (n := W4.heap.size) (by go_grown) P_2 (by simp; try omega), bcl (n := W4.heap.size) (by go_grown) P_3 (by simp; try omega), bcl (n := W4.heap.size) (by go_grown) Q_0 (by simp; try omega), bcl (n := W4.heap.size) (by go_grown) Q_1 (by simp; try omega), bcl (n := W4.heap.size) (by go_grown) Q_2 (by simp; try omega), bcl (n := W4.heap.size) (by go_grown) Q_3 (by simp; try omega)⟩
        clear hK K
        try simp only [Act.put, List.setIfInBounds_toArray, List.set_cons_zero, List.set_cons_succ]
        refine wpAnyH_take (i := 15) (oi := ({ dst := some 50, op := Op.extract (Operand.tmp 49) 0, type := 45, pos := "ref.go:203", after := #[{ on := 14, ground := Ground.data }], guard := none } : Oper)) (v := ?yv515) rfl (by kernel_rfl) (by kernel_rfl) (by kernel_rfl) (fun _ _ _ h => h) (Or.inl ⟨by rfl, ?yh515⟩) (by assumption) ?yr515
        case yh515 => (intro wq hSw; (try dsimp only at hSw); go_simp; first | done | with_reducible rfl)
        simp only [Act.put, List.setIfInBounds_toArray, List.set_cons_zero, List.set_cons_succ]
        refine wpAnyH_take (i := 16) (oi := ({ dst := some 51, op := Op.extract (Operand.tmp 49) 1, type := 24, pos := "ref.go:203", after := #[{ on := 14, ground := Ground.data }], guard := none } : Oper)) (v := ?yv516) rfl (by kernel_rfl) (by kernel_rfl) (by kernel_rfl) (fun _ _ _ h => h) (Or.inl ⟨by rfl, ?yh516⟩) (by assumption) ?yr516
        case yh516 => (intro wq hSw; (try dsimp only at hSw); go_simp; first | done | with_reducible rfl)
        simp only [Act.put, List.setIfInBounds_toArray, List.set_cons_zero, List.set_cons_succ]
        refine wpAnyH_ready (rs := [17]) (by kernel_rfl) (by simp) ?_
        refine AllReadyH.cons (o := ({ dst := none, op := Op.store 45 (Operand.tmp 4) (Operand.tmp 50), type := 0, pos := "ref.go:203", after := #[{ on := 15, ground := Ground.data }, { on := 14, ground := Ground.chain }, { on := 0, ground := Ground.phase }, { on := 1, ground := Ground.phase }, { on := 2, ground := Ground.phase }, { on := 3, ground := Ground.phase }, { on := 4, ground := Ground.phase }, { on := 5, ground := Ground.phase }, { on := 6, ground := Ground.phase }, { on := 7, ground := Ground.phase }, { on := 8, ground := Ground.phase }, { on := 9, ground := Ground.phase }, { on := 10, ground := Ground.phase }, { on := 11, ground := Ground.phase }, { on := 12, ground := Ground.phase }, { on := 13, ground := Ground.phase }, { on := 14, ground := Ground.phase }, { on := 15, ground := Ground.phase }, { on := 16, ground := Ground.phase }], guard := none } : Oper)) rfl (fun K hK => ?_) AllReadyH.nil
        go_simp
        refine hK.out _ _ ?_ (fun hHeld => ?_)
        · exact ⟨kc2 hB1 A_0 l_A ne_A, kc2 hB1 A_1 l_A ne_A, kc2 hB1 B_0 l_B ne_B, kc2 hB1 B_1 l_B ne_B, kc2 hB1 P_0 l_P ne_P, kc2 hB1 P_1 l_P ne_P, kc2 hB1 P_2 l_P ne_P, kc2 hB1 P_3 l_P ne_P, kc2 hB1 Q_0 l_Q ne_Q, kc2 hB1 Q_1 l_Q ne_Q, kc2 hB1 Q_2 l_Q ne_Q, kc2 hB1 Q_3 l_Q ne_Q⟩
        clear hK K
        try simp only [Act.put, List.setIfInBounds_toArray, List.set_cons_zero, List.set_cons_succ]
        refine wpAnyH_take (i := 18) (oi := ({ dst := some 5, op := Op.assign (Operand.tmp 51), type := 24, pos := "ref.go:203", after := #[{ on := 16, ground := Ground.data }, { on := 17, ground := Ground.chain }, { on := 0, ground := Ground.phase }, { on := 1, ground := Ground.phase }, { on := 2, ground := Ground.phase }, { on := 3, ground := Ground.phase }, { on := 4, ground := Ground.phase }, { on := 5, ground := Ground.phase }, { on := 6, ground := Ground.phase }, { on := 7, ground := Ground.phase }, { on := 8, ground := Ground.phase }, { on := 9, ground := Ground.phase }, { on := 10, ground := Ground.phase }, { on := 11, ground := Ground.phase }, { on := 12, ground := Ground.phase }, { on := 13, ground := Ground.phase }, { on := 14, ground := Ground.phase }, { on := 15, ground := Ground.phase }, { on := 16, ground := Ground.phase }, { on := 17, ground := Ground.phase }], guard := none } : Oper)) (v := ?yv518) rfl (by kernel_rfl) (by kernel_rfl) (by kernel_rfl) (fun _ _ _ h => h) (Or.inl ⟨by rfl, ?yh518⟩) (by assumption) ?yr518
        case yh518 => (intro wq hSw; (try dsimp only at hSw); go_simp; first | done | with_reducible rfl)
        simp only [Act.put, List.setIfInBounds_toArray, List.set_cons_zero, List.set_cons_succ]
        refine wpAnyH_done (by kernel_rfl) ?_ _
        (try go_wp2)
        go_meet
        case rel =>
          have hBx : Below w.heap.size w w1 := hBW4.trans (hB1.mono hBW4.size)
          refine ⟨rfl, ?_, ?_⟩
          · first
              | exact (HR.out.below hB1 l_R).two _ _
              | exact ((HR.out.below hB1 l_R).two _ _).drewN _
              | (constructor <;> simp (maxDischargeDepth := 8) [go_sem, *])
          · exact (by repeat' (first | (with_reducible exact Below.refl _ _) | (with_reducible assumption) | (with_reducible refine bdrewN _ ?_) | (with_reducible refine Below.alloc ?_ ?_ _) | (with_reducible refine Below.setCell ?_ ?_ _) | (with_reducible refine Below.drew ?_) | go_size | (simp; omega)))
      case rest =>
        obtain ⟨rfl, b9, hB9⟩ := hcut
        obtain ⟨x0, x1, -, -⟩ := b9
        clear HM R_2 R_3 A_0 A_1 B_0 B_1 P_0 P_1 P_2 P_3 Q_0 Q_1 Q_2 Q_3 R_0 R_1 hBW4
        go_wp2
        refine bodyPost_ret (by simp [results, Tryz.results39, go_sem, x0, x1]; try rfl) rfl ?_
        exact ⟨rfl, hB9⟩
    · have HA : Hid (Blk2 W4 (w.heap.size) (a) (b)) := A
      have HB : Hid (Blk2 W4 (w.heap.size + 1) (c) (d)) := B
      have HR : Hid (Blk2 W4 (w.heap.size + 1 + 1) (0) (0)) := R
      have HP : Hid (Blk W4 (bP) (g0 (sz a * sz c)) (g1 (sz a * sz c)) (g2 (sz a * sz c)) (g3 (sz a * sz c))) := P
      have HQ : Hid (Blk W4 (w4.heap.size) (g0 (b * d)) (g1 (b * d)) (g2 (b * d)) (g3 (b * d))) := Q
      clear A B R P Q
      obtain ⟨A_0, A_1, -, -⟩ := HA.out
      obtain ⟨B_0, B_1, -, -⟩ := HB.out
      obtain ⟨P_0, P_1, P_2, P_3, -, -, -, -⟩ := HP.out
      obtain ⟨Q_0, Q_1, Q_2, Q_3, -, -, -, -⟩ := HQ.out
      obtain ⟨R_0, R_1, -, -⟩ := HR.out
      have R_2 := HR.out.f0
      have R_3 := HR.out.f1
      have e1 : decide (a < 0) = false := by simp; omega
      have e2 : decide (c < 0) = true := by simp; omega
      have heq : ∀ W : World, _ := fun W => eq_digT W 0 0 0 0
      rw [n0] at P_0
      rw [n1] at P_1
      rw [n2] at P_2
      rw [n3] at P_3
      rw [n0, n1, n2, n3] at HM
      clear n0 n1 n2 n3
      have ne_A : w.heap.size ≠ w.heap.size + 1 + 1 := by omega
      have ne_B : w.heap.size + 1 ≠ w.heap.size + 1 + 1 := by omega
      have ne_P : bP ≠ w.heap.size + 1 + 1 := by omega
      have ne_Q : w4.heap.size ≠ w.heap.size + 1 + 1 := by omega
      go_cut [5] (fun p wx => p = .int .i64 (rE (sg false (sz a * sz c)) (b * d)) ∧ Blk2 wx (w.heap.size + 1 + 1) (rN (sg false (sz a * sz c)) (b * d)) (rD (sg false (sz a * sz c)) (b * d)) ∧ Below w.heap.size w wx)
      case first =>
        refine wp_region_held_drew (S := fun w' => w'.cell? ⟨w.heap.size, 0, none⟩ = some (.int .i64 (a)) ∧ w'.cell? ⟨w.heap.size, 1, none⟩ = some (.int .i64 (b)) ∧ w'.cell? ⟨w.heap.size + 1, 0, none⟩ = some (.int .i64 (c)) ∧ w'.cell? ⟨w.heap.size + 1, 1, none⟩ = some (.int .i64 (d)) ∧ w'.cell? ⟨bP, 0, none⟩ = some (.int .u64 0) ∧ w'.cell? ⟨bP, 1, none⟩ = some (.int .u64 0) ∧ w'.cell? ⟨bP, 2, none⟩ = some (.int .u64 0) ∧ w'.cell? ⟨bP, 3, none⟩ = some (.int .u64 0) ∧ w'.cell? ⟨w4.heap.size, 0, none⟩ = some (.int .u64 (g0 (b * d))) ∧ w'.cell? ⟨w4.heap.size, 1, none⟩ = some (.int .u64 (g1 (b * d))) ∧ w'.cell? ⟨w4.heap.size, 2, none⟩ = some (.int .u64 (g2 (b * d))) ∧ w'.cell? ⟨w4.heap.size, 3, none⟩ = some (.int .u64 (g3 (b * d)))) (by kernel_rfl) ?_ (fun hHeld => ?_)
        · exact ⟨bcl (n := W4.heap.size) (by go_grown) A_0 (by simp; try omega), bcl (n := W4.heap.size) (by go_grown) A_1 (by simp; try omega), bcl (n := W4.heap.size) (by go_grown) B_0 (by simp; try omega), bcl (n := W4.heap.size) (by go_grown) B_1 (by simp; try omega), bcl (n := W4.heap.size) (by go_grown) P_0 (by simp; try omega), bcl (n := W4.heap.size) (by go_grown) P_1 (by simp; try omega), bcl (n := W4.heap.size) (by go_grown) P_2 (by simp; try omega), bcl (n := W4.heap.size) (by go_grown) P_3 (by simp; try omega), bcl (n := W4.heap.size) (by go_grown) Q_0 (by simp; try omega), bcl (n := W4.heap.size) (by go_grown) Q_1 (by simp; try omega), bcl (n := W4.heap.size) (by go_grown) Q_2 (by simp; try omega), bcl (n := W4.heap.size) (by go_grown) Q_3 (by simp; try omega)⟩
        refine wpAnyH_take (i := 0) (oi := ({ dst := some 35, op := Op.fieldAddr 45 (Operand.tmp 2) 0, type := 0, pos := "ref.go:203", after := #[], guard := none } : Oper)) (v := ?yv600) rfl (by kernel_rfl) (by kernel_rfl) (by kernel_rfl) (fun _ _ _ h => h) (Or.inl ⟨by rfl, ?yh600⟩) (by assumption) ?yr600
        case yh600 => (intro wq hSw; (try dsimp only at hSw); go_simp; first | done | with_reducible rfl)
        simp only [Act.put, List.setIfInBounds_toArray, List.set_cons_zero, List.set_cons_succ]
        refine wpAnyH_take (i := 1) (oi := ({ dst := some 36, op := Op.load 2 (Operand.tmp 35), type := 2, pos := "ref.go:203", after := #[{ on := 0, ground := Ground.data }], guard := none } : Oper)) (v := ?yv601) rfl (by kernel_rfl) (by kernel_rfl) (by kernel_rfl) (fun _ _ _ h => h) (Or.inl ⟨by rfl, ?yh601⟩) (by assumption) ?yr601
        case yh601 => (intro wq hSw; (try dsimp only at hSw); go_simp; first | done | with_reducible rfl)
        simp only [Act.put, List.setIfInBounds_toArray, List.set_cons_zero, List.set_cons_succ]
        refine wpAnyH_take (i := 2) (oi := ({ dst := some 37, op := Op.binOp BinOp.lss 2 (Operand.tmp 36) (Operand.const (Value.int IntKind.i64 0)) 2, type := 4, pos := "ref.go:203", after := #[{ on := 1, ground := Ground.data }], guard := none } : Oper)) (v := ?yv602) rfl (by kernel_rfl) (by kernel_rfl) (by kernel_rfl) (fun _ _ _ h => h) (Or.inl ⟨by rfl, ?yh602⟩) (by assumption) ?yr602
        case yh602 => (intro wq hSw; (try dsimp only at hSw); go_simp; first | done | with_reducible rfl)
        simp only [Act.put, List.setIfInBounds_toArray, List.set_cons_zero, List.set_cons_succ]
        refine wpAnyH_take (i := 3) (oi := ({ dst := some 38, op := Op.fieldAddr 45 (Operand.tmp 3) 0, type := 0, pos := "ref.go:203", after := #[], guard := none } : Oper)) (v := ?yv603) rfl (by kernel_rfl) (by kernel_rfl) (by kernel_rfl) (fun _ _ _ h => h) (Or.inl ⟨by rfl, ?yh603⟩) (by assumption) ?yr603
        case yh603 => (intro wq hSw; (try dsimp only at hSw); go_simp; first | done | with_reducible rfl)
        simp only [Act.put, List.setIfInBounds_toArray, List.set_cons_zero, List.set_cons_succ]
        refine wpAnyH_take (i := 4) (oi := ({ dst := some 39, op := Op.load 2 (Operand.tmp 38), type := 2, pos := "ref.go:203", after := #[{ on := 3, ground := Ground.data }], guard := none } : Oper)) (v := ?yv604) rfl (by kernel_rfl) (by kernel_rfl) (by kernel_rfl) (fun _ _ _ h => h) (Or.inl ⟨by rfl, ?yh604⟩) (by assumption) ?yr604
        case yh604 => (intro wq hSw; (try dsimp only at hSw); go_simp; first | done | with_reducible rfl)
        simp only [Act.put, List.setIfInBounds_toArray, List.set_cons_zero, List.set_cons_succ]
        refine wpAnyH_take (i := 5) (oi := ({ dst := some 40, op := Op.binOp BinOp.lss 2 (Operand.tmp 39) (Operand.const (Value.int IntKind.i64 0)) 2, type := 4, pos := "ref.go:203", after := #[{ on := 4, ground := Ground.data }], guard := none } : Oper)) (v := ?yv605) rfl (by kernel_rfl) (by kernel_rfl) (by kernel_rfl) (fun _ _ _ h => h) (Or.inl ⟨by rfl, ?yh605⟩) (by assumption) ?yr605
        case yh605 => (intro wq hSw; (try dsimp only at hSw); go_simp; first | done | with_reducible rfl)
        simp only [Act.put, List.setIfInBounds_toArray, List.set_cons_zero, List.set_cons_succ]
        refine wpAnyH_take (i := 6) (oi := ({ dst := some 41, op := Op.binOp BinOp.neq 4 (Operand.tmp 37) (Operand.tmp 40) 4, type := 4, pos := "ref.go:203", after := #[{ on := 2, ground := Ground.data }, { on := 5, ground := Ground.data }], guard := none } : Oper)) (v := ?yv606) rfl (by kernel_rfl) (by kernel_rfl) (by kernel_rfl) (fun _ _ _ h => h) (Or.inl ⟨by rfl, ?yh606⟩) (by assumption) ?yr606
        case yh606 => (intro wq hSw; (try dsimp only at hSw); go_simp; first | done | with_reducible rfl)
        simp only [Act.put, List.setIfInBounds_toArray, List.set_cons_zero, List.set_cons_succ]
        refine wpAnyH_take (i := 7) (oi := ({ dst := some 42, op := Op.move (Operand.tmp 41), type := 4, pos := "ref.go:203", after := #[{ on := 6, ground := Ground.data }], guard := none } : Oper)) (v := ?yv607) rfl (by kernel_rfl) (by kernel_rfl) (by kernel_rfl) (fun _ _ _ h => h) (Or.inl ⟨by rfl, ?yh607⟩) (by assumption) ?yr607
        case yh607 => (intro wq hSw; (try dsimp only at hSw); go_simp; first | done | with_reducible rfl)
        simp only [Act.put, List.setIfInBounds_toArray, List.set_cons_zero, List.set_cons_succ]
        refine wpAnyH_take (i := 8) (oi := ({ dst := some 43, op := Op.load 70 (Operand.tmp 8), type := 70, pos := "ref.go:203", after := #[{ on := 7, ground := Ground.guard }], guard := some (7, true) } : Oper)) (v := ?yv608) rfl (by kernel_rfl) (by kernel_rfl) (by kernel_rfl) (fun _ _ _ h => h) (Or.inl ⟨by rfl, ?yh608⟩) (by assumption) ?yr608
        case yh608 => (intro wq hSw; (try dsimp only at hSw); go_simp; first | done | with_reducible rfl)
        simp only [Act.put, List.setIfInBounds_toArray, List.set_cons_zero, List.set_cons_succ]
        refine wpAnyH_take (i := 9) (oi := ({ dst := some 44, op := Op.build 70 #[], type := 70, pos := "ref.go:203", after := #[{ on := 7, ground := Ground.guard }], guard := some (7, true) } : Oper)) (v := ?yv609) rfl (by kernel_rfl) (by kernel_rfl) (by kernel_rfl) (fun _ _ _ h => h) (Or.inl ⟨by rfl, ?yh609⟩) (by assumption) ?yr609
        case yh609 => (intro wq hSw; (try dsimp only at hSw); go_simp; first | done | with_reducible rfl)
        simp only [Act.put, List.setIfInBounds_toArray, List.set_cons_zero, List.set_cons_succ]
        refine wpAnyH_take (i := 10) (oi := ({ dst := some 45, op := Op.binOp BinOp.neq 70 (Operand.tmp 43) (Operand.tmp 44) 70, type := 4, pos := "ref.go:203", after := #[{ on := 8, ground := Ground.data }, { on := 9, ground := Ground.data }, { on := 7, ground := Ground.guard }], guard := some (7, true) } : Oper)) (v := ?yv610) rfl (by kernel_rfl) (by kernel_rfl) (by kernel_rfl) (fun _ _ _ h => h) (Or.inl ⟨by rfl, ?yh610⟩) (by assumption) ?yr610
        case yh610 => (intro wq hSw; (try dsimp only at hSw); go_simp; first | done | with_reducible rfl)
        simp only [Act.put, List.setIfInBounds_toArray, List.set_cons_zero, List.set_cons_succ]
        refine wpAnyH_take (i := 11) (oi := ({ dst := some 46, op := Op.pick (Operand.tmp 42) (Operand.tmp 45) (Operand.const (Value.bool false)), type := 4, pos := "ref.go:203", after := #[{ on := 7, ground := Ground.data }, { on := 10, ground := Ground.data }], guard := none } : Oper)) (v := ?yv611) rfl (by kernel_rfl) (by kernel_rfl) (by kernel_rfl) (fun _ _ _ h => h) (Or.inl ⟨by rfl, ?yh611⟩) (by assumption) ?yr611
        case yh611 => (intro wq hSw; (try dsimp only at hSw); go_simp; first | done | with_reducible rfl)
        simp only [Act.put, List.setIfInBounds_toArray, List.set_cons_zero, List.set_cons_succ]
        refine wpAnyH_take (i := 12) (oi := ({ dst := some 47, op := Op.load 70 (Operand.tmp 8), type := 70, pos := "ref.go:203", after := #[], guard := none } : Oper)) (v := ?yv612) rfl (by kernel_rfl) (by kernel_rfl) (by kernel_rfl) (fun _ _ _ h => h) (Or.inl ⟨by rfl, ?yh612⟩) (by assumption) ?yr612
        case yh612 => (intro wq hSw; (try dsimp only at hSw); go_simp; first | done | with_reducible rfl)
        simp only [Act.put, List.setIfInBounds_toArray, List.set_cons_zero, List.set_cons_succ]
        refine wpAnyH_take (i := 13) (oi := ({ dst := some 48, op := Op.load 70 (Operand.tmp 9), type := 70, pos := "ref.go:203", after := #[], guard := none } : Oper)) (v := ?yv613) rfl (by kernel_rfl) (by kernel_rfl) (by kernel_rfl) (fun _ _ _ h => h) (Or.inl ⟨by rfl, ?yh613⟩) (by assumption) ?yr613
        case yh613 => (intro wq hSw; (try dsimp only at hSw); go_simp; first | done | with_reducible rfl)
        simp only [Act.put, List.setIfInBounds_toArray, List.set_cons_zero, List.set_cons_succ]
        refine wpAnyH_ready (rs := [14]) (by kernel_rfl) (by simp) ?_
        refine AllReadyH.cons (o := ({ dst := some 49, op := Op.call { callee := Callee.value (Operand.func 54), args := #[Operand.tmp 46, Operand.tmp 47, Operand.tmp 48], argTypes := #[4, 70, 70] }, type := 53, pos := "ref.go:203", after := #[{ on := 11, ground := Ground.data }, { on := 12, ground := Ground.data }, { on := 13, ground := Ground.data }, { on := 7, ground := Ground.chain }], guard := none } : Oper)) rfl (fun K hK => ?_) AllReadyH.nil
        go_simp
        go_at_call 54; refine (HM.out _).mono ?_; rintro e w1 ⟨rfl, hb1⟩; obtain ⟨hc1, hf1, hz1, hB1, hn1, hm1⟩ := bg (n := W4.heap.size) (W0 := W4) (by go_grown) (by go_size) hb1; have z_R := hm1 _ l_R; have R0' := bcl hB1 R_0 l_R; have R1' := bcl hB1 R_1 l_R; have R2' := bfr hB1 R_2 l_R; have R3' := bfr hB1 R_3 l_R; clear hm1 hc1 hf1
        (try go_wp2_with fail)
        refine hK.out _ _ ?_ (fun hHeld => ?_)
        · exact ⟨bcl (n := W4.heap.size) (by go_grown) A_0 (by simp; try omega), bcl (n := W4.heap.size) (by go_grown) A_1 (by simp; try omega), bcl (n := W4.heap.size) (by go_grown) B_0 (by simp; try omega), bcl (n := W4.heap.size) (by go_grown) B_1 (by simp; try omega), bcl (n := W4.heap.size) (by go_grown) P_0 (by simp; try omega), bcl (n := W4.heap.size) (by go_grown) P_1 (by simp; try omega), bcl (n := W4.heap.size) (by go_grown) P_2 (by simp; try omega), bcl (n := W4.heap.size) (by go_grown) P_3 (by simp; try omega), bcl (n := W4.heap.size) (by go_grown) Q_0 (by simp; try omega), bcl (n := W4.heap.size) (by go_grown) Q_1 (by simp; try omega), bcl (n := W4.heap.size) (by go_grown) Q_2 (by simp; try omega), bcl (n := W4.heap.size) (by go_grown) Q_3 (by simp; try omega)⟩
        clear hK K
        try simp only [Act.put, List.setIfInBounds_toArray, List.set_cons_zero, List.set_cons_succ]
        refine wpAnyH_take (i := 15) (oi := ({ dst := some 50, op := Op.extract (Operand.tmp 49) 0, type := 45, pos := "ref.go:203", after := #[{ on := 14, ground := Ground.data }], guard := none } : Oper)) (v := ?yv615) rfl (by kernel_rfl) (by kernel_rfl) (by kernel_rfl) (fun _ _ _ h => h) (Or.inl ⟨by rfl, ?yh615⟩) (by assumption) ?yr615
        case yh615 => (intro wq hSw; (try dsimp only at hSw); go_simp; first | done | with_reducible rfl)
        simp only [Act.put, List.setIfInBounds_toArray, List.set_cons_zero, List.set_cons_succ]
        refine wpAnyH_take (i := 16) (oi := ({ dst := some 51, op := Op.extract (Operand.tmp 49) 1, type := 24, pos := "ref.go:203", after := #[{ on := 14, ground := Ground.data }], guard := none } : Oper)) (v := ?yv616) rfl (by kernel_rfl) (by kernel_rfl) (by kernel_rfl) (fun _ _ _ h => h) (Or.inl ⟨by rfl, ?yh616⟩) (by assumption) ?yr616
        case yh616 => (intro wq hSw; (try dsimp only at hSw); go_simp; first | done | with_reducible rfl)
        simp only [Act.put, List.setIfInBounds_toArray, List.set_cons_zero, List.set_cons_succ]
        refine wpAnyH_ready (rs := [17]) (by kernel_rfl) (by simp) ?_
        refine AllReadyH.cons (o := ({ dst := none, op := Op.store 45 (Operand.tmp 4) (Operand.tmp 50), type := 0, pos := "ref.go:203", after := #[{ on := 15, ground := Ground.data }, { on := 14, ground := Ground.chain }, { on := 0, ground := Ground.phase }, { on := 1, ground := Ground.phase }, { on := 2, ground := Ground.phase }, { on := 3, ground := Ground.phase }, { on := 4, ground := Ground.phase }, { on := 5, ground := Ground.phase }, { on := 6, ground := Ground.phase }, { on := 7, ground := Ground.phase }, { on := 8, ground := Ground.phase }, { on := 9, ground := Ground.phase }, { on := 10, ground := Ground.phase }, { on := 11, ground := Ground.phase }, { on := 12, ground := Ground.phase }, { on := 13, ground := Ground.phase }, { on := 14, ground := Ground.phase }, { on := 15, ground := Ground.phase }, { on := 16, ground := Ground.phase }], guard := none } : Oper)) rfl (fun K hK => ?_) AllReadyH.nil
        go_simp
        refine hK.out _ _ ?_ (fun hHeld => ?_)
        · exact ⟨kc2 hB1 A_0 l_A ne_A, kc2 hB1 A_1 l_A ne_A, kc2 hB1 B_0 l_B ne_B, kc2 hB1 B_1 l_B ne_B, kc2 hB1 P_0 l_P ne_P, kc2 hB1 P_1 l_P ne_P, kc2 hB1 P_2 l_P ne_P, kc2 hB1 P_3 l_P ne_P, kc2 hB1 Q_0 l_Q ne_Q, kc2 hB1 Q_1 l_Q ne_Q, kc2 hB1 Q_2 l_Q ne_Q, kc2 hB1 Q_3 l_Q ne_Q⟩
        clear hK K
        try simp only [Act.put, List.setIfInBounds_toArray, List.set_cons_zero, List.set_cons_succ]
        refine wpAnyH_take (i := 18) (oi := ({ dst := some 5, op := Op.assign (Operand.tmp 51), type := 24, pos := "ref.go:203", after := #[{ on := 16, ground := Ground.data }, { on := 17, ground := Ground.chain }, { on := 0, ground := Ground.phase }, { on := 1, ground := Ground.phase }, { on := 2, ground := Ground.phase }, { on := 3, ground := Ground.phase }, { on := 4, ground := Ground.phase }, { on := 5, ground := Ground.phase }, { on := 6, ground := Ground.phase }, { on := 7, ground := Ground.phase }, { on := 8, ground := Ground.phase }, { on := 9, ground := Ground.phase }, { on := 10, ground := Ground.phase }, { on := 11, ground := Ground.phase }, { on := 12, ground := Ground.phase }, { on := 13, ground := Ground.phase }, { on := 14, ground := Ground.phase }, { on := 15, ground := Ground.phase }, { on := 16, ground := Ground.phase }, { on := 17, ground := Ground.phase }], guard := none } : Oper)) (v := ?yv618) rfl (by kernel_rfl) (by kernel_rfl) (by kernel_rfl) (fun _ _ _ h => h) (Or.inl ⟨by rfl, ?yh618⟩) (by assumption) ?yr618
        case yh618 => (intro wq hSw; (try dsimp only at hSw); go_simp; first | done | with_reducible rfl)
        simp only [Act.put, List.setIfInBounds_toArray, List.set_cons_zero, List.set_cons_succ]
        refine wpAnyH_done (by kernel_rfl) ?_ _
        (try go_wp2)
        go_meet
        case rel =>
          have hBx : Below w.heap.size w w1 := hBW4.trans (hB1.mono hBW4.size)
          refine ⟨rfl, ?_, ?_⟩
          · first
              | exact (HR.out.below hB1 l_R).two _ _
              | exact ((HR.out.below hB1 l_R).two _ _).drewN _
              | (constructor <;> simp (maxDischargeDepth := 8) [go_sem, *])
          · exact (by repeat' (first | (with_reducible exact Below.refl _ _) | (with_reducible assumption) | (with_reducible refine bdrewN _ ?_) | (with_reducible refine Below.alloc ?_ ?_ _) | (with_reducible refine Below.setCell ?_ ?_ _) | (with_reducible refine Below.drew ?_) | go_size | (simp; omega)))
      case rest =>
        obtain ⟨rfl, b9, hB9⟩ := hcut
        obtain ⟨x0, x1, -, -⟩ := b9
        clear HM R_2 R_3 A_0 A_1 B_0 B_1 P_0 P_1 P_2 P_3 Q_0 Q_1 Q_2 Q_3 R_0 R_1 hBW4
        go_wp2
        refine bodyPost_ret (by simp [results, Tryz.results39, go_sem, x0, x1]; try rfl) rfl ?_
        exact ⟨rfl, hB9⟩


end Go.Proofs.YtedoahibceeklaaGreatDoor

namespace Go.Proofs.YtedoahibceeklaaGreatDoor
open Go.RowKit

theorem docbd {x y : Int} (hx : 0 ≤ x) (hx' : x ≤ 9223372036854775808) (hy : 0 ≤ y) (hy' : y ≤ 9223372036854775808) : 0 ≤ x * y ∧ x * y ≤ 85070591730234615865843651857942052864 := by
  have h := mul_bd hx hx' hy hy'
  exact ⟨h.1, by omega⟩
/-- A product by signs and sizes; where it is 0 the sign does not matter. -/
theorem docsg (a c : Int) : sg (decide (a < 0) != decide (c < 0)) (sz a * sz c) = a * c := by
  unfold sg
  by_cases h1 : a < 0 <;> by_cases h2 : c < 0
  · rw [sz_of_neg h1, sz_of_neg h2]; simp [h1, h2] <;> grind
  · rw [sz_of_neg h1, sz_of_nonneg (show 0 ≤ c by omega)]; simp [h1, h2] <;> grind
  · rw [sz_of_nonneg (show 0 ≤ a by omega), sz_of_neg h2]; simp [h1, h2] <;> grind
  · rw [sz_of_nonneg (show 0 ≤ a by omega), sz_of_nonneg (show 0 ≤ c by omega)]; simp [h1, h2] <;> grind
theorem doczero (b : Bool) : sg b 0 = 0 := by unfold sg; split <;> rfl

set_option maxRecDepth 100000 in
set_option maxHeartbeats 1000000 in
theorem rmul_no1 (a b c d : Int) (w : World) (ha : -9223372036854775808 ≤ a) (ha' : a ≤ 9223372036854775807) (hb : -9223372036854775808 ≤ b) (hb' : b ≤ 9223372036854775807) (hc : -9223372036854775808 ≤ c) (hc' : c ≤ 9223372036854775807) (hd : -9223372036854775808 ≤ d) (hd' : d ≤ 9223372036854775807) (m1 : mayB a b = false) :
    Calls Tryz.prog 39 #[.agg #[.int .i64 a, .int .i64 b], .agg #[.int .i64 c, .int .i64 d]] w fun e w' => e = .returned (.tuple #[.agg #[.int .i64 0, .int .i64 0], .int .i64 1]) ∧ Below w.heap.size w w' := by
  go_enter Tryz.func39, Tryz.ntmps39
  go_upto_region 1 with fail
  refine wp_world ?_
  intro W0 hW0
  have A : Blk2 W0 (w.heap.size) (a) (b) := by rw [hW0]; constructor <;> simp (maxDischargeDepth := 12) [go_sem]
  have l_A : w.heap.size < W0.heap.size := by rw [hW0]; first | (simp; done) | (simp; omega)
  have B : Blk2 W0 (w.heap.size + 1) (c) (d) := by rw [hW0]; constructor <;> simp (maxDischargeDepth := 12) [go_sem]
  have l_B : w.heap.size + 1 < W0.heap.size := by rw [hW0]; first | (simp; done) | (simp; omega)
  have R : Blk2 W0 (w.heap.size + 1 + 1) (0) (0) := by rw [hW0]; constructor <;> simp (maxDischargeDepth := 12) [go_sem]
  have l_R : w.heap.size + 1 + 1 < W0.heap.size := by rw [hW0]; first | (simp; done) | (simp; omega)
  have hB0 : Below w.heap.size w W0 := by rw [hW0]; exact (by repeat' (first | (with_reducible exact Below.refl _ _) | (with_reducible assumption) | (with_reducible refine bdrewN _ ?_) | (with_reducible refine Below.alloc ?_ ?_ _) | (with_reducible refine Below.setCell ?_ ?_ _) | (with_reducible refine Below.drew ?_) | go_size | (simp; omega)))
  clear hW0
  have HA : Hid (Blk2 W0 (w.heap.size) (a) (b)) := A
  have HB : Hid (Blk2 W0 (w.heap.size + 1) (c) (d)) := B
  have HR : Hid (Blk2 W0 (w.heap.size + 1 + 1) (0) (0)) := R
  clear A B R
  obtain ⟨A_0, A_1, -, -⟩ := HA.out
  go_wp2_with fail
  refine (rmay_any a b _ ha ha' hb hb').mono ?_
  rintro e w1 ⟨rfl, hb1⟩
  rw [m1]
  have hs1 := hb1.size
  have b1 := HB.out.below hb1 l_B
  obtain ⟨x0, x1, -, -⟩ := b1
  go_wp2_with fail
  refine (rmay_any c d _ hc hc' hd hd').mono ?_
  rintro e w2 ⟨rfl, hb2⟩
  have hB2 : Below w.heap.size w w2 := (hB0.trans (hb1.mono hB0.size)).trans (hb2.mono (by have := hB0.size; omega))
  have bR := (HR.out.below hb1 l_R).below hb2 (by omega)
  have bB := (HB.out.below hb1 l_B).below hb2 (by omega)
  have bRR : Hid (Blk2 w2 (w.heap.size + 1 + 1) 0 0) := bR
  obtain ⟨r0, r1, r2, r3⟩ := bR
  obtain ⟨y0, y1, -, -⟩ := bB
  clear x0 x1 A_0 A_1 hb1 hb2 hs1
  go_wp2
  generalize hW9 : World.setCell _ _ _ = W9
  have b9 := bRR.out.two 0 0
  rw [hW9] at b9
  have hB9 : Below w.heap.size w W9 := by rw [← hW9]; exact (by repeat' (first | (with_reducible exact Below.refl _ _) | (with_reducible assumption) | (with_reducible refine bdrewN _ ?_) | (with_reducible refine Below.alloc ?_ ?_ _) | (with_reducible refine Below.setCell ?_ ?_ _) | (with_reducible refine Below.drew ?_) | go_size | (simp; omega)))
  clear hW9
  obtain ⟨z0, z1, -, -⟩ := b9
  refine bodyPost_ret (by simp [results, Tryz.results39, go_sem, z0, z1]; try rfl) rfl ?_
  exact ⟨rfl, hB9⟩

set_option maxRecDepth 100000 in
set_option maxHeartbeats 1000000 in
theorem rmul_no2 (a b c d : Int) (w : World) (ha : -9223372036854775808 ≤ a) (ha' : a ≤ 9223372036854775807) (hb : -9223372036854775808 ≤ b) (hb' : b ≤ 9223372036854775807) (hc : -9223372036854775808 ≤ c) (hc' : c ≤ 9223372036854775807) (hd : -9223372036854775808 ≤ d) (hd' : d ≤ 9223372036854775807) (m1 : mayB a b = true) (m2 : mayB c d = false) :
    Calls Tryz.prog 39 #[.agg #[.int .i64 a, .int .i64 b], .agg #[.int .i64 c, .int .i64 d]] w fun e w' => e = .returned (.tuple #[.agg #[.int .i64 0, .int .i64 0], .int .i64 1]) ∧ Below w.heap.size w w' := by
  go_enter Tryz.func39, Tryz.ntmps39
  go_upto_region 1 with fail
  refine wp_world ?_
  intro W0 hW0
  have A : Blk2 W0 (w.heap.size) (a) (b) := by rw [hW0]; constructor <;> simp (maxDischargeDepth := 12) [go_sem]
  have l_A : w.heap.size < W0.heap.size := by rw [hW0]; first | (simp; done) | (simp; omega)
  have B : Blk2 W0 (w.heap.size + 1) (c) (d) := by rw [hW0]; constructor <;> simp (maxDischargeDepth := 12) [go_sem]
  have l_B : w.heap.size + 1 < W0.heap.size := by rw [hW0]; first | (simp; done) | (simp; omega)
  have R : Blk2 W0 (w.heap.size + 1 + 1) (0) (0) := by rw [hW0]; constructor <;> simp (maxDischargeDepth := 12) [go_sem]
  have l_R : w.heap.size + 1 + 1 < W0.heap.size := by rw [hW0]; first | (simp; done) | (simp; omega)
  have hB0 : Below w.heap.size w W0 := by rw [hW0]; exact (by repeat' (first | (with_reducible exact Below.refl _ _) | (with_reducible assumption) | (with_reducible refine bdrewN _ ?_) | (with_reducible refine Below.alloc ?_ ?_ _) | (with_reducible refine Below.setCell ?_ ?_ _) | (with_reducible refine Below.drew ?_) | go_size | (simp; omega)))
  clear hW0
  have HA : Hid (Blk2 W0 (w.heap.size) (a) (b)) := A
  have HB : Hid (Blk2 W0 (w.heap.size + 1) (c) (d)) := B
  have HR : Hid (Blk2 W0 (w.heap.size + 1 + 1) (0) (0)) := R
  clear A B R
  obtain ⟨A_0, A_1, -, -⟩ := HA.out
  go_wp2_with fail
  refine (rmay_any a b _ ha ha' hb hb').mono ?_
  rintro e w1 ⟨rfl, hb1⟩
  rw [m1]
  have hs1 := hb1.size
  have b1 := HB.out.below hb1 l_B
  obtain ⟨x0, x1, -, -⟩ := b1
  go_wp2_with fail
  refine (rmay_any c d _ hc hc' hd hd').mono ?_
  rintro e w2 ⟨rfl, hb2⟩
  rw [m2]
  have hB2 : Below w.heap.size w w2 := (hB0.trans (hb1.mono hB0.size)).trans (hb2.mono (by have := hB0.size; omega))
  have bR := (HR.out.below hb1 l_R).below hb2 (by omega)
  have bB := (HB.out.below hb1 l_B).below hb2 (by omega)
  have bRR : Hid (Blk2 w2 (w.heap.size + 1 + 1) 0 0) := bR
  obtain ⟨r0, r1, r2, r3⟩ := bR
  obtain ⟨y0, y1, -, -⟩ := bB
  clear x0 x1 A_0 A_1 hb1 hb2 hs1
  go_wp2
  generalize hW9 : World.setCell _ _ _ = W9
  have b9 := bRR.out.two 0 0
  rw [hW9] at b9
  have hB9 : Below w.heap.size w W9 := by rw [← hW9]; exact (by repeat' (first | (with_reducible exact Below.refl _ _) | (with_reducible assumption) | (with_reducible refine bdrewN _ ?_) | (with_reducible refine Below.alloc ?_ ?_ _) | (with_reducible refine Below.setCell ?_ ?_ _) | (with_reducible refine Below.drew ?_) | go_size | (simp; omega)))
  clear hW9
  obtain ⟨z0, z1, -, -⟩ := b9
  refine bodyPost_ret (by simp [results, Tryz.results39, go_sem, z0, z1]; try rfl) rfl ?_
  exact ⟨rfl, hB9⟩

theorem rmul_all (a b c d : Int) (w : World) (ha : -9223372036854775808 ≤ a) (ha' : a ≤ 9223372036854775807) (hb : -9223372036854775808 ≤ b) (hb' : b ≤ 9223372036854775807) (hc : -9223372036854775808 ≤ c) (hc' : c ≤ 9223372036854775807) (hd : -9223372036854775808 ≤ d) (hd' : d ≤ 9223372036854775807) :
    Calls Tryz.prog 39 #[.agg #[.int .i64 a, .int .i64 b], .agg #[.int .i64 c, .int .i64 d]] w fun e w' => e = .returned (.tuple #[.agg #[.int .i64 (tN a b c d (a * c) (b * d)), .int .i64 (tD a b c d (a * c) (b * d))], .int .i64 (tE a b c d (a * c) (b * d))]) ∧ Below w.heap.size w w' := by
  cases m1 : mayB a b
  · obtain ⟨e1, e2, e3⟩ := t_no1 (c := c) (d := d) m1 (a * c) (b * d)
    rw [e1, e2, e3]; exact rmul_no1 a b c d w ha ha' hb hb' hc hc' hd hd' m1
  · cases m2 : mayB c d
    · obtain ⟨e1, e2, e3⟩ := t_no2 (a := a) (b := b) m2 (a * c) (b * d)
      rw [e1, e2, e3]; exact rmul_no2 a b c d w ha ha' hb hb' hc hc' hd hd' m1 m2
    · obtain ⟨e1, e2, e3⟩ := t_yes m1 m2 (a * c) (b * d)
      rw [e1, e2, e3]
      have pb := (may_of m1).1
      have pd := (may_of m2).1
      have za := sz_nonneg a
      have zc := sz_nonneg c
      have za' := sz_le ha ha'
      have zc' := sz_le hc hc'
      have kn := docbd za za' zc zc'
      have kd := docbd (show 0 ≤ b by omega) (by omega) (show 0 ≤ d by omega) (by omega)
      have kd0 : 0 < b * d := Int.mul_pos pb pd
      have SG := docsg a c
      by_cases hz : sz a * sz c = 0
      · have dz : g0 (sz a * sz c) = 0 ∧ g1 (sz a * sz c) = 0 ∧ g2 (sz a * sz c) = 0 ∧ g3 (sz a * sz c) = 0 := by rw [hz]; exact g_zero
        have hq : sg false (sz a * sz c) = a * c := by rw [← SG, hz, doczero, doczero]
        rw [← hq]
        refine rmul_raw false a b c d w ha ha' hb hb' hc hc' hd hd' m1 m2 pb pd za za' zc zc' (fun W => rmade_r false (sz a * sz c) (b * d) W kn.1 (by omega) kd0 (by omega) (by simp)) ?_
        by_cases s1 : a < 0 <;> by_cases s2 : c < 0
        · exact Or.inl ⟨s1, s2, rfl⟩
        · exact Or.inr (Or.inr (Or.inr (Or.inl ⟨s1, by omega, rfl, dz⟩)))
        · exact Or.inr (Or.inr (Or.inr (Or.inr (Or.inr ⟨by omega, s2, rfl, dz⟩))))
        · exact Or.inr (Or.inl ⟨by omega, by omega, rfl⟩)
      · have dn := g_pos (sz a * sz c) kn.1 (by omega) hz
        rw [← SG]
        refine rmul_raw _ a b c d w ha ha' hb hb' hc hc' hd hd' m1 m2 pb pd za za' zc zc' (fun W => rmade_r _ (sz a * sz c) (b * d) W kn.1 (by omega) kd0 (by omega) (fun _ => by omega)) ?_
        by_cases s1 : a < 0 <;> by_cases s2 : c < 0
        · exact Or.inl ⟨s1, s2, by simp [s1, s2]⟩
        · exact Or.inr (Or.inr (Or.inl ⟨s1, by omega, by simp [s1, s2], dn⟩))
        · exact Or.inr (Or.inr (Or.inr (Or.inr (Or.inl ⟨by omega, s2, by simp [s1, s2], dn⟩))))
        · exact Or.inr (Or.inl ⟨by omega, by omega, by simp [s1, s2]⟩)

end Go.Proofs.YtedoahibceeklaaGreatDoor
