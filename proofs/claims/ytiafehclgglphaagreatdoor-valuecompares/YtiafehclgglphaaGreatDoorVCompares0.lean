/- The law ValueCompares: its walk. -/
import Derived.Test.YtiafehclgglphaaGreatDoorVLive
import Derived.Test.YtiafehclgglphaaGreatDoorVDocCmp
namespace Go.Proofs.YtiafehclgglphaaGreatDoor
open Go.RowKit Go.Shelf

set_option maxRecDepth 100000 in
set_option maxHeartbeats 4000000 in
theorem compares_walk (k n d : Int) (s : ByteArray) (k' n' d' : Int) (s' : ByteArray) (h1 : -9223372036854775808 ≤ n) (h2 : n ≤ 9223372036854775807) (g1 : -9223372036854775808 ≤ d) (g2 : d ≤ 9223372036854775807) (h1' : -9223372036854775808 ≤ n') (h2' : n' ≤ 9223372036854775807) (g1' : -9223372036854775808 ≤ d') (g2' : d' ≤ 9223372036854775807) (w : World) (ht : Pow w) :
    Calls Tryz.prog 5 #[.agg #[.int .i64 k, .int .i64 n, .int .i64 d, .string s], .agg #[.int .i64 k', .int .i64 n', .int .i64 d', .string s']] w fun e w' => e = .returned (.bool true) ∧ Below w.heap.size w w' := by
  obtain ⟨C, eC⟩ : ∃ C : Int, Hid (vcmp k n d s k' n' d' s' = C) := ⟨_, rfl⟩
  obtain ⟨E, eE⟩ : ∃ E : Bool, Hid (sameB k n d s k' n' d' s' = E) := ⟨_, rfl⟩
  have r1 : Hid (∀ W : World, Calls Tryz.prog 15 #[.agg #[.int .i64 k, .int .i64 n, .int .i64 d, .string s], .agg #[.int .i64 k', .int .i64 n', .int .i64 d', .string s']] W fun e w' => e = .returned (.int .i64 C) ∧ Below W.heap.size W w') := fun W => by
    have h := dcompare_any k n d s k' n' d' s' W h1 h2 g1 g2 h1' h2' g1' g2'
    rw [eC.out] at h
    exact h
  have r2 : Hid (∀ W : World, Calls Tryz.prog 16 #[.agg #[.int .i64 k, .int .i64 n, .int .i64 d, .string s], .agg #[.int .i64 k', .int .i64 n', .int .i64 d', .string s']] W fun e w' => e = .returned (.bool E) ∧ Below W.heap.size W w') := fun W => by
    have h := rsame_any k n d s k' n' d' s' W
    rw [eE.out] at h
    exact h
  have r3 : Hid (∀ W : World, Calls Tryz.prog 17 #[.agg #[.int .i64 k, .int .i64 n, .int .i64 d, .string s], .agg #[.int .i64 k', .int .i64 n', .int .i64 d', .string s']] W fun e w' => e = .returned (.int .i64 C) ∧ Below W.heap.size W w') := fun W => by
    have h := vcompare_any k n d s k' n' d' s' W h1 h2 g1 g2 h1' h2' g1' g2'
    rw [eC.out] at h
    exact h
  have r4 : Hid (∀ W : World, Calls Tryz.prog 18 #[.agg #[.int .i64 k, .int .i64 n, .int .i64 d, .string s], .agg #[.int .i64 k', .int .i64 n', .int .i64 d', .string s']] W fun e w' => e = .returned (.bool E) ∧ Below W.heap.size W w') := fun W => by
    have h := vsame_any k n d s k' n' d' s' W
    rw [eE.out] at h
    exact h
  clear eC eE h1 h2 g1 g2 h1' h2' g1' g2'
  go_enter Tryz.func5, Tryz.ntmps5
  go_upto_region 1 with fail
  refine wp_world ?_
  intro W0 hW0
  have A0 : Hid (BlkV W0 w.heap.size k n d s) := by rw [hW0]; constructor <;> simp (maxDischargeDepth := 12) [go_sem]
  have B0 : Hid (BlkV W0 (w.heap.size + 1) k' n' d' s') := by rw [hW0]; constructor <;> simp (maxDischargeDepth := 12) [go_sem]
  have z0 : w.heap.size + 1 < W0.heap.size := by rw [hW0]; simp
  have K0 : Below w.heap.size w W0 := by rw [hW0]; go_grown
  clear hW0
  obtain ⟨a0, a1, a2, a3, -, -, -, -⟩ := A0.out
  obtain ⟨b0, b1, b2, b3, -, -, -, -⟩ := B0.out
  go_wp2_with fail
  refine (r1.out _).mono ?_
  rintro e w1 ⟨rfl, hb⟩
  clear a0 a1 a2 a3 b0 b1 b2 b3
  have A1 : Hid (BlkV w1 w.heap.size k n d s) := A0.out.below hb (by omega)
  have B1 : Hid (BlkV w1 (w.heap.size + 1) k' n' d' s') := B0.out.below hb z0
  have z1 : w.heap.size + 1 < w1.heap.size := by have := hb.size; omega
  have K1 : Below w.heap.size w w1 := K0.trans (hb.mono K0.size)
  clear A0 B0 z0 K0 hb
  obtain ⟨a0, a1, a2, a3, -, -, -, -⟩ := A1.out
  obtain ⟨b0, b1, b2, b3, -, -, -, -⟩ := B1.out
  go_wp2_with fail
  refine (r2.out _).mono ?_
  rintro e w2 ⟨rfl, hb⟩
  clear a0 a1 a2 a3 b0 b1 b2 b3
  have A2 : Hid (BlkV w2 w.heap.size k n d s) := A1.out.below hb (by omega)
  have B2 : Hid (BlkV w2 (w.heap.size + 1) k' n' d' s') := B1.out.below hb z1
  have z2 : w.heap.size + 1 < w2.heap.size := by have := hb.size; omega
  have K2 : Below w.heap.size w w2 := K1.trans (hb.mono K1.size)
  clear A1 B1 z1 K1 hb
  obtain ⟨a0, a1, a2, a3, -, -, -, -⟩ := A2.out
  obtain ⟨b0, b1, b2, b3, -, -, -, -⟩ := B2.out
  go_wp2_with fail
  refine (live_any _ (ht.below K2)).mono ?_
  rintro e w3 ⟨rfl, hb⟩
  clear a0 a1 a2 a3 b0 b1 b2 b3
  have A3 : Hid (BlkV w3 w.heap.size k n d s) := A2.out.below hb (by omega)
  have B3 : Hid (BlkV w3 (w.heap.size + 1) k' n' d' s') := B2.out.below hb z2
  have z3 : w.heap.size + 1 < w3.heap.size := by have := hb.size; omega
  have K3 : Below w.heap.size w w3 := K2.trans (hb.mono K2.size)
  clear A2 B2 z2 K2 hb
  obtain ⟨a0, a1, a2, a3, -, -, -, -⟩ := A3.out
  obtain ⟨b0, b1, b2, b3, -, -, -, -⟩ := B3.out
  go_wp2_with fail
  refine (r3.out _).mono ?_
  rintro e w4 ⟨rfl, hb⟩
  clear a0 a1 a2 a3 b0 b1 b2 b3
  have A4 : Hid (BlkV w4 w.heap.size k n d s) := A3.out.below hb (by omega)
  have B4 : Hid (BlkV w4 (w.heap.size + 1) k' n' d' s') := B3.out.below hb z3
  have z4 : w.heap.size + 1 < w4.heap.size := by have := hb.size; omega
  have K4 : Below w.heap.size w w4 := K3.trans (hb.mono K3.size)
  clear A3 B3 z3 K3 hb
  obtain ⟨a0, a1, a2, a3, -, -, -, -⟩ := A4.out
  obtain ⟨b0, b1, b2, b3, -, -, -, -⟩ := B4.out
  go_wp2_with fail
  refine (r4.out _).mono ?_
  rintro e w5 ⟨rfl, hb⟩
  clear a0 a1 a2 a3 b0 b1 b2 b3
  have A5 : Hid (BlkV w5 w.heap.size k n d s) := A4.out.below hb (by omega)
  have B5 : Hid (BlkV w5 (w.heap.size + 1) k' n' d' s') := B4.out.below hb z4
  have z5 : w.heap.size + 1 < w5.heap.size := by have := hb.size; omega
  have K5 : Below w.heap.size w w5 := K4.trans (hb.mono K4.size)
  clear A4 B4 z4 K4 hb
  go_wp2
  go_ret
  exact ⟨rfl, K5⟩

end Go.Proofs.YtiafehclgglphaaGreatDoor
