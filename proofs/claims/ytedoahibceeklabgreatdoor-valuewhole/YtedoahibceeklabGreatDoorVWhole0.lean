/- The law ValueWhole: its walk. -/
import Derived.Test.YtedoahibceeklabGreatDoorVLive
import Derived.Test.YtedoahibceeklabGreatDoorVCmp
import Derived.Test.YtedoahibceeklabGreatDoorVSubMul
import Derived.Test.YtedoahibceeklabGreatDoorVReck02
import Derived.Test.YtedoahibceeklabGreatDoorVReck11
import Derived.Test.YtedoahibceeklabGreatDoorVReck12
import Derived.Test.YtedoahibceeklabGreatDoorVReck21
import Derived.Test.YtedoahibceeklabGreatDoorVReck22
namespace Go.Proofs.YtedoahibceeklabGreatDoor
open Go.RowKit Go.Shelf
set_option linter.unusedVariables false

theorem may_one {n : Int} (h1 : -9223372036854775808 ≤ n) (h2 : n ≤ 9223372036854775807) : mayB n 1 = true := may_intro h1 h2 (by decide) (by decide) (by simp [Nat.Coprime])
theorem chk_whole (n : Int) : chk 1 n 0 ⟨#[]⟩ = 0 := by simp [chk, pureB, ByteArray.toList_eq]; decide
theorem chk_part {n : Int} (h1 : -9223372036854775808 ≤ n) (h2 : n ≤ 9223372036854775807) : chk 2 n 1 ⟨#[]⟩ = 0 := by simp [chk, pureB, may_one h1 h2, ByteArray.toList_eq]; decide
theorem one_of {p : Int} (a b : Int) (h : tE a 1 b 1 p (1 * 1) = 0) : tD a 1 b 1 p (1 * 1) = 1 := by
  unfold tE at h
  split at h
  · rename_i g
    unfold tD
    rw [if_pos g]
    have hg : gc (sz p) 1 = 1 := by
      have h1 := gc_pos (sz p) 1 (by decide)
      have h2 := gc_le (sz p) 1 (by decide)
      omega
    unfold rE outE at h
    unfold rD outD
    simp only [Int.mul_one, hg, Int.ediv_one] at h ⊢
    split at h
    · rename_i k
      rw [if_pos k]
    · omega
  · omega
theorem wcmp_same {n m : Int} (h1 : -9223372036854775808 ≤ n) (h2 : n ≤ 9223372036854775807) (g1 : -9223372036854775808 ≤ m) (g2 : m ≤ 9223372036854775807) : vcmp 2 n 1 ⟨#[]⟩ 2 m 1 ⟨#[]⟩ = vcmp 1 n 0 ⟨#[]⟩ 1 m 0 ⟨#[]⟩ := by
  unfold vcmp
  rw [if_pos (chk_part h1 h2), if_pos (chk_part g1 g2), if_pos (chk_whole n), if_pos (chk_whole m)]
  simp [cmpV, both, may_one h1 h2, may_one g1 g2, Lib.compareInt]

set_option maxRecDepth 100000 in
set_option maxHeartbeats 8000000 in
theorem whole_walk (n m : Int) (h1 : -9223372036854775808 ≤ n) (h2 : n ≤ 9223372036854775807) (g1 : -9223372036854775808 ≤ m) (g2 : m ≤ 9223372036854775807) (w : World) (ht : Pow w) :
    Calls Tryz.prog 3 #[.int .i64 n, .int .i64 m] w fun e w' => e = .returned (.bool true) ∧ Below w.heap.size w w' := by
  obtain ⟨k0, l0, x0, d0, e0, R0, S0, O0⟩ : ∃ k l x d E : Int, Hid (∀ W : World, Calls Tryz.prog 7 #[.agg #[.int .i64 1, .int .i64 n, .int .i64 0, .string ⟨#[]⟩], .agg #[.int .i64 1, .int .i64 m, .int .i64 0, .string ⟨#[]⟩]] W fun e w' => e = .returned (.tuple #[.agg #[.int .i64 k, .int .i64 x, .int .i64 0, .string ⟨#[]⟩], .int .i64 E]) ∧ Below W.heap.size W w')
      ∧ Hid (∀ W : World, Calls Tryz.prog 7 #[.agg #[.int .i64 2, .int .i64 n, .int .i64 1, .string ⟨#[]⟩], .agg #[.int .i64 2, .int .i64 m, .int .i64 1, .string ⟨#[]⟩]] W fun e w' => e = .returned (.tuple #[.agg #[.int .i64 l, .int .i64 x, .int .i64 d, .string ⟨#[]⟩], .int .i64 E]) ∧ Below W.heap.size W w')
      ∧ Hid ((E != 0) = true ∨ (E != 0) = false ∧ (d == 1) = true) := by
    refine ⟨(if tE n 1 m 1 (n * 1 + m * 1) (1 * 1) = 0 then 1 else 0), (if tE n 1 m 1 (n * 1 + m * 1) (1 * 1) = 0 then 2 else 0), (if tE n 1 m 1 (n * 1 + m * 1) (1 * 1) = 0 then tN n 1 m 1 (n * 1 + m * 1) (1 * 1) else 0), (if tE n 1 m 1 (n * 1 + m * 1) (1 * 1) = 0 then tD n 1 m 1 (n * 1 + m * 1) (1 * 1) else 0), (tE n 1 m 1 (n * 1 + m * 1) (1 * 1)), fun W => ?_, fun W => ?_, ?_⟩
    · exact vadd 1 n 0 ⟨#[]⟩ 1 m 0 ⟨#[]⟩ _ _ _ _ _ W (fun W => rk_Add1 _ _ _ n 0 ⟨#[]⟩ m 0 ⟨#[]⟩ W h1 h2 (by decide) (by decide) g1 g2 (by decide) (by decide) rfl rfl rfl (chk_whole n) (chk_whole m))
    · exact vadd 2 n 1 ⟨#[]⟩ 2 m 1 ⟨#[]⟩ _ _ _ _ _ W (fun W => rk_Add2 _ _ _ n 1 ⟨#[]⟩ m 1 ⟨#[]⟩ W h1 h2 (by decide) (by decide) g1 g2 (by decide) (by decide) rfl rfl rfl (chk_part h1 h2) (chk_part g1 g2))
    · by_cases z : (tE n 1 m 1 (n * 1 + m * 1) (1 * 1)) = 0
      · exact Or.inr ⟨by rw [z]; rfl, by simp only [z, if_true, one_of n m z]; rfl⟩
      · exact Or.inl (by simpa using z)
  obtain ⟨k1, l1, x1, d1, e1, R1, S1, O1⟩ : ∃ k l x d E : Int, Hid (∀ W : World, Calls Tryz.prog 10 #[.agg #[.int .i64 1, .int .i64 n, .int .i64 0, .string ⟨#[]⟩], .agg #[.int .i64 1, .int .i64 m, .int .i64 0, .string ⟨#[]⟩]] W fun e w' => e = .returned (.tuple #[.agg #[.int .i64 k, .int .i64 x, .int .i64 0, .string ⟨#[]⟩], .int .i64 E]) ∧ Below W.heap.size W w')
      ∧ Hid (∀ W : World, Calls Tryz.prog 10 #[.agg #[.int .i64 2, .int .i64 n, .int .i64 1, .string ⟨#[]⟩], .agg #[.int .i64 2, .int .i64 m, .int .i64 1, .string ⟨#[]⟩]] W fun e w' => e = .returned (.tuple #[.agg #[.int .i64 l, .int .i64 x, .int .i64 d, .string ⟨#[]⟩], .int .i64 E]) ∧ Below W.heap.size W w')
      ∧ Hid ((E != 0) = true ∨ (E != 0) = false ∧ (d == 1) = true) := by
    refine ⟨(if tE n 1 m 1 (n * 1 - m * 1) (1 * 1) = 0 then 1 else 0), (if tE n 1 m 1 (n * 1 - m * 1) (1 * 1) = 0 then 2 else 0), (if tE n 1 m 1 (n * 1 - m * 1) (1 * 1) = 0 then tN n 1 m 1 (n * 1 - m * 1) (1 * 1) else 0), (if tE n 1 m 1 (n * 1 - m * 1) (1 * 1) = 0 then tD n 1 m 1 (n * 1 - m * 1) (1 * 1) else 0), (tE n 1 m 1 (n * 1 - m * 1) (1 * 1)), fun W => ?_, fun W => ?_, ?_⟩
    · exact wsub 1 n 0 ⟨#[]⟩ 1 m 0 ⟨#[]⟩ _ _ _ _ _ W (fun W => rk_Sub1 _ _ _ n 0 ⟨#[]⟩ m 0 ⟨#[]⟩ W h1 h2 (by decide) (by decide) g1 g2 (by decide) (by decide) rfl rfl rfl (chk_whole n) (chk_whole m))
    · exact wsub 2 n 1 ⟨#[]⟩ 2 m 1 ⟨#[]⟩ _ _ _ _ _ W (fun W => rk_Sub2 _ _ _ n 1 ⟨#[]⟩ m 1 ⟨#[]⟩ W h1 h2 (by decide) (by decide) g1 g2 (by decide) (by decide) rfl rfl rfl (chk_part h1 h2) (chk_part g1 g2))
    · by_cases z : (tE n 1 m 1 (n * 1 - m * 1) (1 * 1)) = 0
      · exact Or.inr ⟨by rw [z]; rfl, by simp only [z, if_true, one_of n m z]; rfl⟩
      · exact Or.inl (by simpa using z)
  obtain ⟨k2, l2, x2, d2, e2, R2, S2, O2⟩ : ∃ k l x d E : Int, Hid (∀ W : World, Calls Tryz.prog 11 #[.agg #[.int .i64 1, .int .i64 n, .int .i64 0, .string ⟨#[]⟩], .agg #[.int .i64 1, .int .i64 m, .int .i64 0, .string ⟨#[]⟩]] W fun e w' => e = .returned (.tuple #[.agg #[.int .i64 k, .int .i64 x, .int .i64 0, .string ⟨#[]⟩], .int .i64 E]) ∧ Below W.heap.size W w')
      ∧ Hid (∀ W : World, Calls Tryz.prog 11 #[.agg #[.int .i64 2, .int .i64 n, .int .i64 1, .string ⟨#[]⟩], .agg #[.int .i64 2, .int .i64 m, .int .i64 1, .string ⟨#[]⟩]] W fun e w' => e = .returned (.tuple #[.agg #[.int .i64 l, .int .i64 x, .int .i64 d, .string ⟨#[]⟩], .int .i64 E]) ∧ Below W.heap.size W w')
      ∧ Hid ((E != 0) = true ∨ (E != 0) = false ∧ (d == 1) = true) := by
    refine ⟨(if tE n 1 m 1 (n * m) (1 * 1) = 0 then 1 else 0), (if tE n 1 m 1 (n * m) (1 * 1) = 0 then 2 else 0), (if tE n 1 m 1 (n * m) (1 * 1) = 0 then tN n 1 m 1 (n * m) (1 * 1) else 0), (if tE n 1 m 1 (n * m) (1 * 1) = 0 then tD n 1 m 1 (n * m) (1 * 1) else 0), (tE n 1 m 1 (n * m) (1 * 1)), fun W => ?_, fun W => ?_, ?_⟩
    · exact wmul 1 n 0 ⟨#[]⟩ 1 m 0 ⟨#[]⟩ _ _ _ _ _ W (fun W => rk_Mul1 _ _ _ n 0 ⟨#[]⟩ m 0 ⟨#[]⟩ W h1 h2 (by decide) (by decide) g1 g2 (by decide) (by decide) rfl rfl rfl (chk_whole n) (chk_whole m))
    · exact wmul 2 n 1 ⟨#[]⟩ 2 m 1 ⟨#[]⟩ _ _ _ _ _ W (fun W => rk_Mul2 _ _ _ n 1 ⟨#[]⟩ m 1 ⟨#[]⟩ W h1 h2 (by decide) (by decide) g1 g2 (by decide) (by decide) rfl rfl rfl (chk_part h1 h2) (chk_part g1 g2))
    · by_cases z : (tE n 1 m 1 (n * m) (1 * 1)) = 0
      · exact Or.inr ⟨by rw [z]; rfl, by simp only [z, if_true, one_of n m z]; rfl⟩
      · exact Or.inl (by simpa using z)
  obtain ⟨C, R3, S3⟩ : ∃ C : Int, Hid (∀ W : World, Calls Tryz.prog 12 #[.agg #[.int .i64 1, .int .i64 n, .int .i64 0, .string ⟨#[]⟩], .agg #[.int .i64 1, .int .i64 m, .int .i64 0, .string ⟨#[]⟩]] W fun e w' => e = .returned (.int .i64 C) ∧ Below W.heap.size W w') ∧ Hid (∀ W : World, Calls Tryz.prog 12 #[.agg #[.int .i64 2, .int .i64 n, .int .i64 1, .string ⟨#[]⟩], .agg #[.int .i64 2, .int .i64 m, .int .i64 1, .string ⟨#[]⟩]] W fun e w' => e = .returned (.int .i64 C) ∧ Below W.heap.size W w') := by
    refine ⟨_, fun W => vcompare_any 1 n 0 ⟨#[]⟩ 1 m 0 ⟨#[]⟩ W h1 h2 (by decide) (by decide) g1 g2 (by decide) (by decide), fun W => ?_⟩
    have h := vcompare_any 2 n 1 ⟨#[]⟩ 2 m 1 ⟨#[]⟩ W h1 h2 (by decide) (by decide) g1 g2 (by decide) (by decide)
    rw [wcmp_same h1 h2 g1 g2] at h
    exact h
  clear h1 h2 g1 g2
  go_enter Tryz.func3, Tryz.ntmps3
  go_wp2_with fail
  refine (whole_any n _).mono ?_
  rintro e ua ⟨rfl, i1⟩
  go_wp2_with fail
  refine (whole_any m _).mono ?_
  rintro e ub ⟨rfl, i2⟩
  go_wp2_with fail
  refine (R0.out _).mono ?_
  rintro e v1 ⟨rfl, i3⟩
  have G1 : Below w.heap.size w v1 := (i1.trans (i2.mono i1.size)).trans (i3.mono (Nat.le_trans i1.size i2.size))
  clear i1 i2 i3
  go_upto_region 2 with fail
  refine wp_world ?_
  intro W1 hW1
  have X1_1 : Hid (BlkV W1 v1.heap.size k0 x0 0 ⟨#[]⟩) := by rw [hW1]; constructor <;> simp (maxDischargeDepth := 12) [go_sem]
  have N1 : Below w.heap.size w W1 := by rw [hW1]; exact G1.alloc G1.size _
  have z1_1 : v1.heap.size < W1.heap.size := by rw [hW1]; simp
  have L1 : Below w.heap.size w W1 := N1
  clear hW1 G1 N1
  go_wp2_with fail
  refine (part_any n 1 _).mono ?_
  rintro e ua ⟨rfl, i1⟩
  go_wp2_with fail
  refine (part_any m 1 _).mono ?_
  rintro e ub ⟨rfl, i2⟩
  go_wp2_with fail
  refine (S0.out _).mono ?_
  rintro e v2 ⟨rfl, i3⟩
  have G2 : Below W1.heap.size W1 v2 := (i1.trans (i2.mono i1.size)).trans (i3.mono (Nat.le_trans i1.size i2.size))
  clear i1 i2 i3
  go_upto_region 3 with fail
  refine wp_world ?_
  intro W2 hW2
  have X2_2 : Hid (BlkV W2 v2.heap.size l0 x0 d0 ⟨#[]⟩) := by rw [hW2]; constructor <;> simp (maxDischargeDepth := 12) [go_sem]
  have N2 : Below W1.heap.size W1 W2 := by rw [hW2]; exact G2.alloc G2.size _
  have z2_2 : v2.heap.size < W2.heap.size := by rw [hW2]; simp
  have L2 : Below w.heap.size w W2 := L1.trans (N2.mono L1.size)
  have X1_2 : Hid (BlkV W2 v1.heap.size k0 x0 0 ⟨#[]⟩) := X1_1.out.below N2 z1_1
  have z1_2 : v1.heap.size < W2.heap.size := Nat.lt_of_lt_of_le z1_1 N2.size
  clear hW2 G2 N2 X1_1 z1_1 L1
  go_wp2_with fail
  refine (whole_any n _).mono ?_
  rintro e ua ⟨rfl, i1⟩
  go_wp2_with fail
  refine (whole_any m _).mono ?_
  rintro e ub ⟨rfl, i2⟩
  go_wp2_with fail
  refine (R1.out _).mono ?_
  rintro e v3 ⟨rfl, i3⟩
  have G3 : Below W2.heap.size W2 v3 := (i1.trans (i2.mono i1.size)).trans (i3.mono (Nat.le_trans i1.size i2.size))
  clear i1 i2 i3
  go_upto_region 4 with fail
  refine wp_world ?_
  intro W3 hW3
  have X3_3 : Hid (BlkV W3 v3.heap.size k1 x1 0 ⟨#[]⟩) := by rw [hW3]; constructor <;> simp (maxDischargeDepth := 12) [go_sem]
  have N3 : Below W2.heap.size W2 W3 := by rw [hW3]; exact G3.alloc G3.size _
  have z3_3 : v3.heap.size < W3.heap.size := by rw [hW3]; simp
  have L3 : Below w.heap.size w W3 := L2.trans (N3.mono L2.size)
  have X1_3 : Hid (BlkV W3 v1.heap.size k0 x0 0 ⟨#[]⟩) := X1_2.out.below N3 z1_2
  have z1_3 : v1.heap.size < W3.heap.size := Nat.lt_of_lt_of_le z1_2 N3.size
  have X2_3 : Hid (BlkV W3 v2.heap.size l0 x0 d0 ⟨#[]⟩) := X2_2.out.below N3 z2_2
  have z2_3 : v2.heap.size < W3.heap.size := Nat.lt_of_lt_of_le z2_2 N3.size
  clear hW3 G3 N3 X1_2 z1_2 X2_2 z2_2 L2
  go_wp2_with fail
  refine (part_any n 1 _).mono ?_
  rintro e ua ⟨rfl, i1⟩
  go_wp2_with fail
  refine (part_any m 1 _).mono ?_
  rintro e ub ⟨rfl, i2⟩
  go_wp2_with fail
  refine (S1.out _).mono ?_
  rintro e v4 ⟨rfl, i3⟩
  have G4 : Below W3.heap.size W3 v4 := (i1.trans (i2.mono i1.size)).trans (i3.mono (Nat.le_trans i1.size i2.size))
  clear i1 i2 i3
  go_upto_region 5 with fail
  refine wp_world ?_
  intro W4 hW4
  have X4_4 : Hid (BlkV W4 v4.heap.size l1 x1 d1 ⟨#[]⟩) := by rw [hW4]; constructor <;> simp (maxDischargeDepth := 12) [go_sem]
  have N4 : Below W3.heap.size W3 W4 := by rw [hW4]; exact G4.alloc G4.size _
  have z4_4 : v4.heap.size < W4.heap.size := by rw [hW4]; simp
  have L4 : Below w.heap.size w W4 := L3.trans (N4.mono L3.size)
  have X1_4 : Hid (BlkV W4 v1.heap.size k0 x0 0 ⟨#[]⟩) := X1_3.out.below N4 z1_3
  have z1_4 : v1.heap.size < W4.heap.size := Nat.lt_of_lt_of_le z1_3 N4.size
  have X2_4 : Hid (BlkV W4 v2.heap.size l0 x0 d0 ⟨#[]⟩) := X2_3.out.below N4 z2_3
  have z2_4 : v2.heap.size < W4.heap.size := Nat.lt_of_lt_of_le z2_3 N4.size
  have X3_4 : Hid (BlkV W4 v3.heap.size k1 x1 0 ⟨#[]⟩) := X3_3.out.below N4 z3_3
  have z3_4 : v3.heap.size < W4.heap.size := Nat.lt_of_lt_of_le z3_3 N4.size
  clear hW4 G4 N4 X1_3 z1_3 X2_3 z2_3 X3_3 z3_3 L3
  go_wp2_with fail
  refine (whole_any n _).mono ?_
  rintro e ua ⟨rfl, i1⟩
  go_wp2_with fail
  refine (whole_any m _).mono ?_
  rintro e ub ⟨rfl, i2⟩
  go_wp2_with fail
  refine (R2.out _).mono ?_
  rintro e v5 ⟨rfl, i3⟩
  have G5 : Below W4.heap.size W4 v5 := (i1.trans (i2.mono i1.size)).trans (i3.mono (Nat.le_trans i1.size i2.size))
  clear i1 i2 i3
  go_upto_region 6 with fail
  refine wp_world ?_
  intro W5 hW5
  have X5_5 : Hid (BlkV W5 v5.heap.size k2 x2 0 ⟨#[]⟩) := by rw [hW5]; constructor <;> simp (maxDischargeDepth := 12) [go_sem]
  have N5 : Below W4.heap.size W4 W5 := by rw [hW5]; exact G5.alloc G5.size _
  have z5_5 : v5.heap.size < W5.heap.size := by rw [hW5]; simp
  have L5 : Below w.heap.size w W5 := L4.trans (N5.mono L4.size)
  have X1_5 : Hid (BlkV W5 v1.heap.size k0 x0 0 ⟨#[]⟩) := X1_4.out.below N5 z1_4
  have z1_5 : v1.heap.size < W5.heap.size := Nat.lt_of_lt_of_le z1_4 N5.size
  have X2_5 : Hid (BlkV W5 v2.heap.size l0 x0 d0 ⟨#[]⟩) := X2_4.out.below N5 z2_4
  have z2_5 : v2.heap.size < W5.heap.size := Nat.lt_of_lt_of_le z2_4 N5.size
  have X3_5 : Hid (BlkV W5 v3.heap.size k1 x1 0 ⟨#[]⟩) := X3_4.out.below N5 z3_4
  have z3_5 : v3.heap.size < W5.heap.size := Nat.lt_of_lt_of_le z3_4 N5.size
  have X4_5 : Hid (BlkV W5 v4.heap.size l1 x1 d1 ⟨#[]⟩) := X4_4.out.below N5 z4_4
  have z4_5 : v4.heap.size < W5.heap.size := Nat.lt_of_lt_of_le z4_4 N5.size
  clear hW5 G5 N5 X1_4 z1_4 X2_4 z2_4 X3_4 z3_4 X4_4 z4_4 L4
  go_wp2_with fail
  refine (part_any n 1 _).mono ?_
  rintro e ua ⟨rfl, i1⟩
  go_wp2_with fail
  refine (part_any m 1 _).mono ?_
  rintro e ub ⟨rfl, i2⟩
  go_wp2_with fail
  refine (S2.out _).mono ?_
  rintro e v6 ⟨rfl, i3⟩
  have G6 : Below W5.heap.size W5 v6 := (i1.trans (i2.mono i1.size)).trans (i3.mono (Nat.le_trans i1.size i2.size))
  clear i1 i2 i3
  go_upto_region 7 with fail
  refine wp_world ?_
  intro W6 hW6
  have X6_6 : Hid (BlkV W6 v6.heap.size l2 x2 d2 ⟨#[]⟩) := by rw [hW6]; constructor <;> simp (maxDischargeDepth := 12) [go_sem]
  have N6 : Below W5.heap.size W5 W6 := by rw [hW6]; exact G6.alloc G6.size _
  have z6_6 : v6.heap.size < W6.heap.size := by rw [hW6]; simp
  have L6 : Below w.heap.size w W6 := L5.trans (N6.mono L5.size)
  have X1_6 : Hid (BlkV W6 v1.heap.size k0 x0 0 ⟨#[]⟩) := X1_5.out.below N6 z1_5
  have z1_6 : v1.heap.size < W6.heap.size := Nat.lt_of_lt_of_le z1_5 N6.size
  have X2_6 : Hid (BlkV W6 v2.heap.size l0 x0 d0 ⟨#[]⟩) := X2_5.out.below N6 z2_5
  have z2_6 : v2.heap.size < W6.heap.size := Nat.lt_of_lt_of_le z2_5 N6.size
  have X3_6 : Hid (BlkV W6 v3.heap.size k1 x1 0 ⟨#[]⟩) := X3_5.out.below N6 z3_5
  have z3_6 : v3.heap.size < W6.heap.size := Nat.lt_of_lt_of_le z3_5 N6.size
  have X4_6 : Hid (BlkV W6 v4.heap.size l1 x1 d1 ⟨#[]⟩) := X4_5.out.below N6 z4_5
  have z4_6 : v4.heap.size < W6.heap.size := Nat.lt_of_lt_of_le z4_5 N6.size
  have X5_6 : Hid (BlkV W6 v5.heap.size k2 x2 0 ⟨#[]⟩) := X5_5.out.below N6 z5_5
  have z5_6 : v5.heap.size < W6.heap.size := Nat.lt_of_lt_of_le z5_5 N6.size
  clear hW6 G6 N6 X1_5 z1_5 X2_5 z2_5 X3_5 z3_5 X4_5 z4_5 X5_5 z5_5 L5
  rcases O0.out with o0 | ⟨o0, p0⟩ <;> rcases O1.out with o1 | ⟨o1, p1⟩ <;> rcases O2.out with o2 | ⟨o2, p2⟩
  all_goals
    obtain ⟨a10, a11, a12, a13, -, -, -, -⟩ := X1_6.out
    obtain ⟨a20, a21, a22, a23, -, -, -, -⟩ := X2_6.out
    obtain ⟨a30, a31, a32, a33, -, -, -, -⟩ := X3_6.out
    obtain ⟨a40, a41, a42, a43, -, -, -, -⟩ := X4_6.out
    obtain ⟨a50, a51, a52, a53, -, -, -, -⟩ := X5_6.out
    obtain ⟨a60, a61, a62, a63, -, -, -, -⟩ := X6_6.out
    go_upto_region 8 with fail
    clear a10 a11 a12 a13 a20 a21 a22 a23 a30 a31 a32 a33 a40 a41 a42 a43 a50 a51 a52 a53 a60 a61 a62 a63
    go_wp2_with fail
    refine (whole_any n _).mono ?_
    rintro e u_wholen ⟨rfl, i_wholen⟩
    go_wp2_with fail
    refine (whole_any m _).mono ?_
    rintro e u_wholem ⟨rfl, i_wholem⟩
    go_wp2_with fail
    refine (R3.out _).mono ?_
    rintro e u_whole ⟨rfl, i_whole⟩
    go_wp2_with fail
    refine (part_any n 1 _).mono ?_
    rintro e u_partn ⟨rfl, i_partn⟩
    go_wp2_with fail
    refine (part_any m 1 _).mono ?_
    rintro e u_partm ⟨rfl, i_partm⟩
    go_wp2_with fail
    refine (S3.out _).mono ?_
    rintro e u_part ⟨rfl, i_part⟩
    have Y : Below W6.heap.size W6 u_part := ((((i_wholen.trans (i_wholem.mono i_wholen.size)).trans (i_whole.mono (Nat.le_trans i_wholen.size i_wholem.size))).trans (i_partn.mono (Nat.le_trans (Nat.le_trans i_wholen.size i_wholem.size) i_whole.size))).trans (i_partm.mono (Nat.le_trans (Nat.le_trans (Nat.le_trans i_wholen.size i_wholem.size) i_whole.size) i_partn.size))).trans (i_part.mono (Nat.le_trans (Nat.le_trans (Nat.le_trans (Nat.le_trans i_wholen.size i_wholem.size) i_whole.size) i_partn.size) i_partm.size))
    have Z : Below w.heap.size w u_part := L6.trans (Y.mono L6.size)
    clear i_wholen i_wholem i_whole i_partn i_partm i_part
    go_wp2_with fail
    refine (live_any _ (ht.below Z)).mono ?_
    rintro e wl ⟨rfl, il⟩
    have Y2 : Below W6.heap.size W6 wl := Y.trans (il.mono Y.size)
    obtain ⟨a10, a11, a12, a13, -, -, -, -⟩ := X1_6.out.below Y2 z1_6
    obtain ⟨a20, a21, a22, a23, -, -, -, -⟩ := X2_6.out.below Y2 z2_6
    obtain ⟨a30, a31, a32, a33, -, -, -, -⟩ := X3_6.out.below Y2 z3_6
    obtain ⟨a40, a41, a42, a43, -, -, -, -⟩ := X4_6.out.below Y2 z4_6
    obtain ⟨a50, a51, a52, a53, -, -, -, -⟩ := X5_6.out.below Y2 z5_6
    obtain ⟨a60, a61, a62, a63, -, -, -, -⟩ := X6_6.out.below Y2 z6_6
    go_wp2
    go_ret
    exact ⟨rfl, Z.trans (il.mono Z.size)⟩

end Go.Proofs.YtedoahibceeklabGreatDoor
