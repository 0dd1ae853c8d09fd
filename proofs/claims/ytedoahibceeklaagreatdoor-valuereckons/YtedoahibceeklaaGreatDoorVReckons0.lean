/- The law ValueReckons: its walk. -/
import Derived.Test.YtedoahibceeklaaGreatDoorVLive
import Derived.Test.YtedoahibceeklaaGreatDoorVAgree
namespace Go.Proofs.YtedoahibceeklaaGreatDoor
open Go.RowKit Go.Shelf
set_option linter.unusedVariables false

set_option maxRecDepth 100000 in
set_option maxHeartbeats 4000000 in
theorem reckons_walk (k n d : Int) (s : ByteArray) (k' n' d' : Int) (s' : ByteArray) (h1 : -9223372036854775808 ≤ n) (h2 : n ≤ 9223372036854775807) (g1 : -9223372036854775808 ≤ d) (g2 : d ≤ 9223372036854775807) (h1' : -9223372036854775808 ≤ n') (h2' : n' ≤ 9223372036854775807) (g1' : -9223372036854775808 ≤ d') (g2' : d' ≤ 9223372036854775807) (w : World) (ht : Pow w) :
    Calls Tryz.prog 8 #[.agg #[.int .i64 k, .int .i64 n, .int .i64 d, .string s], .agg #[.int .i64 k', .int .i64 n', .int .i64 d', .string s']] w fun e w' => e = .returned (.bool true) ∧ Below w.heap.size w w' := by
  obtain ⟨K0, N0, D0, E0, r0, q0⟩ := agree_Add k n d s k' n' d' s' h1 h2 g1 g2 h1' h2' g1' g2'
  have p0 : Hid (∀ W : World, Calls Tryz.prog 9 #[.agg #[.int .i64 k, .int .i64 n, .int .i64 d, .string s], .agg #[.int .i64 k', .int .i64 n', .int .i64 d', .string s']] W fun e w' => e = .returned (.tuple #[.agg #[.int .i64 K0, .int .i64 N0, .int .i64 D0, .string ⟨#[]⟩], .int .i64 E0]) ∧ Below W.heap.size W w') := fun W => vadd k n d s k' n' d' s' K0 N0 D0 ⟨#[]⟩ E0 W r0
  obtain ⟨K1, N1, D1, E1, r1, q1⟩ := agree_Sub k n d s k' n' d' s' h1 h2 g1 g2 h1' h2' g1' g2'
  have p1 : Hid (∀ W : World, Calls Tryz.prog 23 #[.agg #[.int .i64 k, .int .i64 n, .int .i64 d, .string s], .agg #[.int .i64 k', .int .i64 n', .int .i64 d', .string s']] W fun e w' => e = .returned (.tuple #[.agg #[.int .i64 K1, .int .i64 N1, .int .i64 D1, .string ⟨#[]⟩], .int .i64 E1]) ∧ Below W.heap.size W w') := fun W => vsub k n d s k' n' d' s' K1 N1 D1 ⟨#[]⟩ E1 W r1
  obtain ⟨K2, N2, D2, E2, r2, q2⟩ := agree_Mul k n d s k' n' d' s' h1 h2 g1 g2 h1' h2' g1' g2'
  have p2 : Hid (∀ W : World, Calls Tryz.prog 24 #[.agg #[.int .i64 k, .int .i64 n, .int .i64 d, .string s], .agg #[.int .i64 k', .int .i64 n', .int .i64 d', .string s']] W fun e w' => e = .returned (.tuple #[.agg #[.int .i64 K2, .int .i64 N2, .int .i64 D2, .string ⟨#[]⟩], .int .i64 E2]) ∧ Below W.heap.size W w') := fun W => vmul k n d s k' n' d' s' K2 N2 D2 ⟨#[]⟩ E2 W r2
  clear r0 r1 r2 h1 h2 g1 g2 h1' h2' g1' g2'
  go_enter Tryz.func8, Tryz.ntmps8
  go_upto_region 1 with fail
  refine wp_world ?_
  intro V0 hV0
  have A0 : Hid (BlkV V0 w.heap.size k n d s) := by rw [hV0]; constructor <;> simp (maxDischargeDepth := 12) [go_sem]
  have B0 : Hid (BlkV V0 (w.heap.size + 1) k' n' d' s') := by rw [hV0]; constructor <;> simp (maxDischargeDepth := 12) [go_sem]
  have z0 : w.heap.size + 1 < V0.heap.size := by rw [hV0]; simp
  have L0 : Below w.heap.size w V0 := by rw [hV0]; go_grown
  clear hV0
  obtain ⟨a0, a1, a2, a3, -, -, -, -⟩ := A0.out
  obtain ⟨b0, b1, b2, b3, -, -, -, -⟩ := B0.out
  go_wp2_with fail
  refine (p0.out _).mono ?_
  rintro e w1 ⟨rfl, hb⟩
  clear a0 a1 a2 a3 b0 b1 b2 b3
  have m1 := hb.size
  go_upto_region 2 with fail
  refine wp_world ?_
  intro V1 hV
  have st : Below V0.heap.size V0 V1 := by rw [hV]; exact hb.alloc hb.size _
  have X1_1 : Hid (BlkV V1 w1.heap.size K0 N0 D0 ⟨#[]⟩) := by rw [hV]; constructor <;> simp (maxDischargeDepth := 12) [go_sem]
  have y1_1 : w1.heap.size < V1.heap.size := by rw [hV]; simp
  clear hV
  have st' := st.size
  have A1 : Hid (BlkV V1 w.heap.size k n d s) := A0.out.below st (by omega)
  have B1 : Hid (BlkV V1 (w.heap.size + 1) k' n' d' s') := B0.out.below st z0
  have z1 : w.heap.size + 1 < V1.heap.size := by omega
  have L1 : Below w.heap.size w V1 := L0.trans (st.mono L0.size)
  clear A0 B0 z0 L0 st st' hb 
  obtain ⟨a0, a1, a2, a3, -, -, -, -⟩ := A1.out
  obtain ⟨b0, b1, b2, b3, -, -, -, -⟩ := B1.out
  go_wp2_with fail
  refine (q0.out _).mono ?_
  rintro e w2 ⟨rfl, hb⟩
  clear a0 a1 a2 a3 b0 b1 b2 b3
  have m2 := hb.size
  go_upto_region 3 with fail
  refine wp_world ?_
  intro V2 hV
  have st : Below V1.heap.size V1 V2 := by rw [hV]; exact hb.alloc hb.size _
  have X2_2 : Hid (BlkV V2 w2.heap.size K0 N0 D0 ⟨#[]⟩) := by rw [hV]; constructor <;> simp (maxDischargeDepth := 12) [go_sem]
  have y2_2 : w2.heap.size < V2.heap.size := by rw [hV]; simp
  clear hV
  have st' := st.size
  have A2 : Hid (BlkV V2 w.heap.size k n d s) := A1.out.below st (by omega)
  have B2 : Hid (BlkV V2 (w.heap.size + 1) k' n' d' s') := B1.out.below st z1
  have z2 : w.heap.size + 1 < V2.heap.size := by omega
  have L2 : Below w.heap.size w V2 := L1.trans (st.mono L1.size)
  have X1_2 : Hid (BlkV V2 w1.heap.size K0 N0 D0 ⟨#[]⟩) := X1_1.out.below st y1_1
  have y1_2 : w1.heap.size < V2.heap.size := by omega
  clear A1 B1 z1 L1 st st' hb X1_1 y1_1
  obtain ⟨a0, a1, a2, a3, -, -, -, -⟩ := A2.out
  obtain ⟨b0, b1, b2, b3, -, -, -, -⟩ := B2.out
  go_wp2_with fail
  refine (p1.out _).mono ?_
  rintro e w3 ⟨rfl, hb⟩
  clear a0 a1 a2 a3 b0 b1 b2 b3
  have m3 := hb.size
  go_upto_region 4 with fail
  refine wp_world ?_
  intro V3 hV
  have st : Below V2.heap.size V2 V3 := by rw [hV]; exact hb.alloc hb.size _
  have X3_3 : Hid (BlkV V3 w3.heap.size K1 N1 D1 ⟨#[]⟩) := by rw [hV]; constructor <;> simp (maxDischargeDepth := 12) [go_sem]
  have y3_3 : w3.heap.size < V3.heap.size := by rw [hV]; simp
  clear hV
  have st' := st.size
  have A3 : Hid (BlkV V3 w.heap.size k n d s) := A2.out.below st (by omega)
  have B3 : Hid (BlkV V3 (w.heap.size + 1) k' n' d' s') := B2.out.below st z2
  have z3 : w.heap.size + 1 < V3.heap.size := by omega
  have L3 : Below w.heap.size w V3 := L2.trans (st.mono L2.size)
  have X1_3 : Hid (BlkV V3 w1.heap.size K0 N0 D0 ⟨#[]⟩) := X1_2.out.below st y1_2
  have y1_3 : w1.heap.size < V3.heap.size := by omega
  have X2_3 : Hid (BlkV V3 w2.heap.size K0 N0 D0 ⟨#[]⟩) := X2_2.out.below st y2_2
  have y2_3 : w2.heap.size < V3.heap.size := by omega
  clear A2 B2 z2 L2 st st' hb X1_2 y1_2 X2_2 y2_2
  obtain ⟨a0, a1, a2, a3, -, -, -, -⟩ := A3.out
  obtain ⟨b0, b1, b2, b3, -, -, -, -⟩ := B3.out
  go_wp2_with fail
  refine (q1.out _).mono ?_
  rintro e w4 ⟨rfl, hb⟩
  clear a0 a1 a2 a3 b0 b1 b2 b3
  have m4 := hb.size
  go_upto_region 5 with fail
  refine wp_world ?_
  intro V4 hV
  have st : Below V3.heap.size V3 V4 := by rw [hV]; exact hb.alloc hb.size _
  have X4_4 : Hid (BlkV V4 w4.heap.size K1 N1 D1 ⟨#[]⟩) := by rw [hV]; constructor <;> simp (maxDischargeDepth := 12) [go_sem]
  have y4_4 : w4.heap.size < V4.heap.size := by rw [hV]; simp
  clear hV
  have st' := st.size
  have A4 : Hid (BlkV V4 w.heap.size k n d s) := A3.out.below st (by omega)
  have B4 : Hid (BlkV V4 (w.heap.size + 1) k' n' d' s') := B3.out.below st z3
  have z4 : w.heap.size + 1 < V4.heap.size := by omega
  have L4 : Below w.heap.size w V4 := L3.trans (st.mono L3.size)
  have X1_4 : Hid (BlkV V4 w1.heap.size K0 N0 D0 ⟨#[]⟩) := X1_3.out.below st y1_3
  have y1_4 : w1.heap.size < V4.heap.size := by omega
  have X2_4 : Hid (BlkV V4 w2.heap.size K0 N0 D0 ⟨#[]⟩) := X2_3.out.below st y2_3
  have y2_4 : w2.heap.size < V4.heap.size := by omega
  have X3_4 : Hid (BlkV V4 w3.heap.size K1 N1 D1 ⟨#[]⟩) := X3_3.out.below st y3_3
  have y3_4 : w3.heap.size < V4.heap.size := by omega
  clear A3 B3 z3 L3 st st' hb X1_3 y1_3 X2_3 y2_3 X3_3 y3_3
  obtain ⟨a0, a1, a2, a3, -, -, -, -⟩ := A4.out
  obtain ⟨b0, b1, b2, b3, -, -, -, -⟩ := B4.out
  go_wp2_with fail
  refine (p2.out _).mono ?_
  rintro e w5 ⟨rfl, hb⟩
  clear a0 a1 a2 a3 b0 b1 b2 b3
  have m5 := hb.size
  go_upto_region 6 with fail
  refine wp_world ?_
  intro V5 hV
  have st : Below V4.heap.size V4 V5 := by rw [hV]; exact hb.alloc hb.size _
  have X5_5 : Hid (BlkV V5 w5.heap.size K2 N2 D2 ⟨#[]⟩) := by rw [hV]; constructor <;> simp (maxDischargeDepth := 12) [go_sem]
  have y5_5 : w5.heap.size < V5.heap.size := by rw [hV]; simp
  clear hV
  have st' := st.size
  have A5 : Hid (BlkV V5 w.heap.size k n d s) := A4.out.below st (by omega)
  have B5 : Hid (BlkV V5 (w.heap.size + 1) k' n' d' s') := B4.out.below st z4
  have z5 : w.heap.size + 1 < V5.heap.size := by omega
  have L5 : Below w.heap.size w V5 := L4.trans (st.mono L4.size)
  have X1_5 : Hid (BlkV V5 w1.heap.size K0 N0 D0 ⟨#[]⟩) := X1_4.out.below st y1_4
  have y1_5 : w1.heap.size < V5.heap.size := by omega
  have X2_5 : Hid (BlkV V5 w2.heap.size K0 N0 D0 ⟨#[]⟩) := X2_4.out.below st y2_4
  have y2_5 : w2.heap.size < V5.heap.size := by omega
  have X3_5 : Hid (BlkV V5 w3.heap.size K1 N1 D1 ⟨#[]⟩) := X3_4.out.below st y3_4
  have y3_5 : w3.heap.size < V5.heap.size := by omega
  have X4_5 : Hid (BlkV V5 w4.heap.size K1 N1 D1 ⟨#[]⟩) := X4_4.out.below st y4_4
  have y4_5 : w4.heap.size < V5.heap.size := by omega
  clear A4 B4 z4 L4 st st' hb X1_4 y1_4 X2_4 y2_4 X3_4 y3_4 X4_4 y4_4
  obtain ⟨a0, a1, a2, a3, -, -, -, -⟩ := A5.out
  obtain ⟨b0, b1, b2, b3, -, -, -, -⟩ := B5.out
  go_wp2_with fail
  refine (q2.out _).mono ?_
  rintro e w6 ⟨rfl, hb⟩
  clear a0 a1 a2 a3 b0 b1 b2 b3
  have m6 := hb.size
  go_upto_region 7 with fail
  refine wp_world ?_
  intro V6 hV
  have st : Below V5.heap.size V5 V6 := by rw [hV]; exact hb.alloc hb.size _
  have X6_6 : Hid (BlkV V6 w6.heap.size K2 N2 D2 ⟨#[]⟩) := by rw [hV]; constructor <;> simp (maxDischargeDepth := 12) [go_sem]
  have y6_6 : w6.heap.size < V6.heap.size := by rw [hV]; simp
  clear hV
  have st' := st.size
  have A6 : Hid (BlkV V6 w.heap.size k n d s) := A5.out.below st (by omega)
  have B6 : Hid (BlkV V6 (w.heap.size + 1) k' n' d' s') := B5.out.below st z5
  have z6 : w.heap.size + 1 < V6.heap.size := by omega
  have L6 : Below w.heap.size w V6 := L5.trans (st.mono L5.size)
  have X1_6 : Hid (BlkV V6 w1.heap.size K0 N0 D0 ⟨#[]⟩) := X1_5.out.below st y1_5
  have y1_6 : w1.heap.size < V6.heap.size := by omega
  have X2_6 : Hid (BlkV V6 w2.heap.size K0 N0 D0 ⟨#[]⟩) := X2_5.out.below st y2_5
  have y2_6 : w2.heap.size < V6.heap.size := by omega
  have X3_6 : Hid (BlkV V6 w3.heap.size K1 N1 D1 ⟨#[]⟩) := X3_5.out.below st y3_5
  have y3_6 : w3.heap.size < V6.heap.size := by omega
  have X4_6 : Hid (BlkV V6 w4.heap.size K1 N1 D1 ⟨#[]⟩) := X4_5.out.below st y4_5
  have y4_6 : w4.heap.size < V6.heap.size := by omega
  have X5_6 : Hid (BlkV V6 w5.heap.size K2 N2 D2 ⟨#[]⟩) := X5_5.out.below st y5_5
  have y5_6 : w5.heap.size < V6.heap.size := by omega
  clear A5 B5 z5 L5 st st' hb X1_5 y1_5 X2_5 y2_5 X3_5 y3_5 X4_5 y4_5 X5_5 y5_5
  go_wp2_with fail
  refine (live_any _ (ht.below L6)).mono ?_
  rintro e u0 ⟨rfl, hb⟩
  have hbs := hb.size
  have X1_7 : Hid (BlkV u0 w1.heap.size K0 N0 D0 ⟨#[]⟩) := X1_6.out.below hb y1_6
  have y1_7 : w1.heap.size < u0.heap.size := by omega
  have X2_7 : Hid (BlkV u0 w2.heap.size K0 N0 D0 ⟨#[]⟩) := X2_6.out.below hb y2_6
  have y2_7 : w2.heap.size < u0.heap.size := by omega
  have X3_7 : Hid (BlkV u0 w3.heap.size K1 N1 D1 ⟨#[]⟩) := X3_6.out.below hb y3_6
  have y3_7 : w3.heap.size < u0.heap.size := by omega
  have X4_7 : Hid (BlkV u0 w4.heap.size K1 N1 D1 ⟨#[]⟩) := X4_6.out.below hb y4_6
  have y4_7 : w4.heap.size < u0.heap.size := by omega
  have X5_7 : Hid (BlkV u0 w5.heap.size K2 N2 D2 ⟨#[]⟩) := X5_6.out.below hb y5_6
  have y5_7 : w5.heap.size < u0.heap.size := by omega
  have X6_7 : Hid (BlkV u0 w6.heap.size K2 N2 D2 ⟨#[]⟩) := X6_6.out.below hb y6_6
  have y6_7 : w6.heap.size < u0.heap.size := by omega
  have M0 : Below w.heap.size w u0 := L6.trans (hb.mono L6.size)
  clear A6 B6 z6 L6 hb hbs X1_6 y1_6 X2_6 y2_6 X3_6 y3_6 X4_6 y4_6 X5_6 y5_6 X6_6 y6_6
  obtain ⟨a0, a1, a2, a3, -, -, -, -⟩ := X1_7.out
  obtain ⟨b0, b1, b2, b3, -, -, -, -⟩ := X2_7.out
  go_wp2_with fail
  refine (lsame_yes _ _ _ _ _).mono ?_
  rintro e u1 ⟨rfl, hb⟩
  clear a0 a1 a2 a3 b0 b1 b2 b3
  have hbs := hb.size
  have M1 : Below w.heap.size w u1 := M0.trans (hb.mono M0.size)
  have X3_8 : Hid (BlkV u1 w3.heap.size K1 N1 D1 ⟨#[]⟩) := X3_7.out.below hb y3_7
  have y3_8 : w3.heap.size < u1.heap.size := by omega
  have X4_8 : Hid (BlkV u1 w4.heap.size K1 N1 D1 ⟨#[]⟩) := X4_7.out.below hb y4_7
  have y4_8 : w4.heap.size < u1.heap.size := by omega
  have X5_8 : Hid (BlkV u1 w5.heap.size K2 N2 D2 ⟨#[]⟩) := X5_7.out.below hb y5_7
  have y5_8 : w5.heap.size < u1.heap.size := by omega
  have X6_8 : Hid (BlkV u1 w6.heap.size K2 N2 D2 ⟨#[]⟩) := X6_7.out.below hb y6_7
  have y6_8 : w6.heap.size < u1.heap.size := by omega
  clear hb hbs
  obtain ⟨a0, a1, a2, a3, -, -, -, -⟩ := X3_8.out
  obtain ⟨b0, b1, b2, b3, -, -, -, -⟩ := X4_8.out
  go_wp2_with fail
  refine (lsame_yes _ _ _ _ _).mono ?_
  rintro e u2 ⟨rfl, hb⟩
  clear a0 a1 a2 a3 b0 b1 b2 b3
  have hbs := hb.size
  have M2 : Below w.heap.size w u2 := M1.trans (hb.mono M1.size)
  have X5_9 : Hid (BlkV u2 w5.heap.size K2 N2 D2 ⟨#[]⟩) := X5_8.out.below hb y5_8
  have y5_9 : w5.heap.size < u2.heap.size := by omega
  have X6_9 : Hid (BlkV u2 w6.heap.size K2 N2 D2 ⟨#[]⟩) := X6_8.out.below hb y6_8
  have y6_9 : w6.heap.size < u2.heap.size := by omega
  clear hb hbs
  obtain ⟨a0, a1, a2, a3, -, -, -, -⟩ := X5_9.out
  obtain ⟨b0, b1, b2, b3, -, -, -, -⟩ := X6_9.out
  go_wp2_with fail
  refine (lsame_yes _ _ _ _ _).mono ?_
  rintro e u3 ⟨rfl, hb⟩
  clear a0 a1 a2 a3 b0 b1 b2 b3
  have hbs := hb.size
  have M3 : Below w.heap.size w u3 := M2.trans (hb.mono M2.size)
  clear hb hbs
  go_wp2
  go_ret
  exact ⟨rfl, M3⟩

end Go.Proofs.YtedoahibceeklaaGreatDoor
