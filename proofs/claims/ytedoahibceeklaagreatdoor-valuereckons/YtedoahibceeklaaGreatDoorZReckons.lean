/- The law ValueReckons of package custoslaw02 returns true at every two values. Its condition: the package-level variables of the library that it lists start as the program lays them (the card ties them). -/
import Derived.Test.YtedoahibceeklaaGreatDoorVAdd
import Derived.Test.YtedoahibceeklaaGreatDoorVCmp
import Derived.Test.YtedoahibceeklaaGreatDoorZReck1
import Derived.Test.YtedoahibceeklaaGreatDoorZReck2
import Derived.Test.YtedoahibceeklaaGreatDoorZDocReck
import Derived.Test.YtedoahibceeklaaGreatDoorZRefC
import Derived.Test.YtedoahibceeklaaGreatDoorZRefMul
import Derived.Test.YtedoahibceeklaaGreatDoorVLive
import Derived.Test.YtedoahibceeklaaGreatDoorCards
import Derived.Test.YtedoahibceeklaaGreatDoorTie
import Derived.ProofKit
import Derived.OpenShut
import Derived.Lib.SmallJoins
import Derived.Deep.DeepHandedRow
import Derived.Lib.LaidTab
import Derived.Stop.LaidErr

namespace Go.Proofs.YtedoahibceeklaaGreatDoor
open Go.RowKit Go.Shelf

set_option maxRecDepth 100000 in
set_option maxHeartbeats 1000000 in
/-- Sub tells what reckon tells. -/
theorem vsub (k n d : Int) (s : ByteArray) (k' n' d' : Int) (s' : ByteArray) (K N D : Int) (S : ByteArray) (E : Int) (w : World)
    (H : Hid (∀ W : World, Calls Tryz.prog 25 #[.int .i64 1, .agg #[.int .i64 k, .int .i64 n, .int .i64 d, .string s], .agg #[.int .i64 k', .int .i64 n', .int .i64 d', .string s']] W fun e w' => e = .returned (.tuple #[.agg #[.int .i64 K, .int .i64 N, .int .i64 D, .string S], .int .i64 E]) ∧ Below W.heap.size W w')) :
    Calls Tryz.prog 23 #[.agg #[.int .i64 k, .int .i64 n, .int .i64 d, .string s], .agg #[.int .i64 k', .int .i64 n', .int .i64 d', .string s']] w fun e w' => e = .returned (.tuple #[.agg #[.int .i64 K, .int .i64 N, .int .i64 D, .string S], .int .i64 E]) ∧ Below w.heap.size w w' := by
  go_enter Tryz.func23, Tryz.ntmps23
  go_upto_region 1 with fail
  refine wp_world ?_
  intro W0 hW0
  have A0 : BlkV W0 w.heap.size k n d s := by rw [hW0]; constructor <;> simp (maxDischargeDepth := 12) [go_sem]
  have B0 : BlkV W0 (w.heap.size + 1) k' n' d' s' := by rw [hW0]; constructor <;> simp (maxDischargeDepth := 12) [go_sem]
  have R0 : Hid (BlkV W0 (w.heap.size + 1 + 1) 0 0 0 ⟨#[]⟩) := by rw [hW0]; constructor <;> simp (maxDischargeDepth := 12) [go_sem]
  have z0 : w.heap.size + 1 + 1 < W0.heap.size := by rw [hW0]; simp
  have K0 : Below w.heap.size w W0 := by rw [hW0]; go_grown
  clear hW0
  obtain ⟨a0, a1, a2, a3, -, -, -, -⟩ := A0
  obtain ⟨b0, b1, b2, b3, -, -, -, -⟩ := B0
  go_wp2_with fail
  refine (H.out _).mono ?_
  rintro e w1 ⟨rfl, hb1⟩
  clear a0 a1 a2 a3 b0 b1 b2 b3
  have R1 : Hid (BlkV w1 (w.heap.size + 1 + 1) 0 0 0 ⟨#[]⟩) := R0.out.below hb1 z0
  have K1 : Below w.heap.size w w1 := K0.trans (hb1.mono K0.size)
  clear R0 z0 K0 hb1
  obtain ⟨r0, r1, r2, r3, r4, r5, r6, r7⟩ := R1.out
  go_wp2
  generalize hW9 : World.setCell _ _ _ = W9
  have b9 : BlkV W9 (w.heap.size + 1 + 1) K N D S := by rw [← hW9]; exact R1.out.four
  have hB9 : Below w.heap.size w W9 := by rw [← hW9]; exact (((K1.setCell (by simp; omega) _).setCell (by simp; omega) _).setCell (by simp; omega) _).setCell (by simp; omega) _
  clear hW9
  obtain ⟨x0, x1, x2, x3, -, -, -, -⟩ := b9
  refine bodyPost_ret (by simp [results, Tryz.results23, go_sem, x0, x1, x2, x3]; try rfl) rfl ?_
  exact ⟨rfl, hB9⟩

set_option maxRecDepth 100000 in
set_option maxHeartbeats 1000000 in
/-- Mul tells what reckon tells. -/
theorem vmul (k n d : Int) (s : ByteArray) (k' n' d' : Int) (s' : ByteArray) (K N D : Int) (S : ByteArray) (E : Int) (w : World)
    (H : Hid (∀ W : World, Calls Tryz.prog 25 #[.int .i64 2, .agg #[.int .i64 k, .int .i64 n, .int .i64 d, .string s], .agg #[.int .i64 k', .int .i64 n', .int .i64 d', .string s']] W fun e w' => e = .returned (.tuple #[.agg #[.int .i64 K, .int .i64 N, .int .i64 D, .string S], .int .i64 E]) ∧ Below W.heap.size W w')) :
    Calls Tryz.prog 24 #[.agg #[.int .i64 k, .int .i64 n, .int .i64 d, .string s], .agg #[.int .i64 k', .int .i64 n', .int .i64 d', .string s']] w fun e w' => e = .returned (.tuple #[.agg #[.int .i64 K, .int .i64 N, .int .i64 D, .string S], .int .i64 E]) ∧ Below w.heap.size w w' := by
  go_enter Tryz.func24, Tryz.ntmps24
  go_upto_region 1 with fail
  refine wp_world ?_
  intro W0 hW0
  have A0 : BlkV W0 w.heap.size k n d s := by rw [hW0]; constructor <;> simp (maxDischargeDepth := 12) [go_sem]
  have B0 : BlkV W0 (w.heap.size + 1) k' n' d' s' := by rw [hW0]; constructor <;> simp (maxDischargeDepth := 12) [go_sem]
  have R0 : Hid (BlkV W0 (w.heap.size + 1 + 1) 0 0 0 ⟨#[]⟩) := by rw [hW0]; constructor <;> simp (maxDischargeDepth := 12) [go_sem]
  have z0 : w.heap.size + 1 + 1 < W0.heap.size := by rw [hW0]; simp
  have K0 : Below w.heap.size w W0 := by rw [hW0]; go_grown
  clear hW0
  obtain ⟨a0, a1, a2, a3, -, -, -, -⟩ := A0
  obtain ⟨b0, b1, b2, b3, -, -, -, -⟩ := B0
  go_wp2_with fail
  refine (H.out _).mono ?_
  rintro e w1 ⟨rfl, hb1⟩
  clear a0 a1 a2 a3 b0 b1 b2 b3
  have R1 : Hid (BlkV w1 (w.heap.size + 1 + 1) 0 0 0 ⟨#[]⟩) := R0.out.below hb1 z0
  have K1 : Below w.heap.size w w1 := K0.trans (hb1.mono K0.size)
  clear R0 z0 K0 hb1
  obtain ⟨r0, r1, r2, r3, r4, r5, r6, r7⟩ := R1.out
  go_wp2
  generalize hW9 : World.setCell _ _ _ = W9
  have b9 : BlkV W9 (w.heap.size + 1 + 1) K N D S := by rw [← hW9]; exact R1.out.four
  have hB9 : Below w.heap.size w W9 := by rw [← hW9]; exact (((K1.setCell (by simp; omega) _).setCell (by simp; omega) _).setCell (by simp; omega) _).setCell (by simp; omega) _
  clear hW9
  obtain ⟨x0, x1, x2, x3, -, -, -, -⟩ := b9
  refine bodyPost_ret (by simp [results, Tryz.results24, go_sem, x0, x1, x2, x3]; try rfl) rfl ?_
  exact ⟨rfl, hB9⟩

theorem agree_Add (k n d : Int) (s : ByteArray) (k' n' d' : Int) (s' : ByteArray) (h1 : -9223372036854775808 ≤ n) (h2 : n ≤ 9223372036854775807) (g1 : -9223372036854775808 ≤ d) (g2 : d ≤ 9223372036854775807) (h1' : -9223372036854775808 ≤ n') (h2' : n' ≤ 9223372036854775807) (g1' : -9223372036854775808 ≤ d') (g2' : d' ≤ 9223372036854775807) :
    ∃ K N D E : Int, Hid (∀ W : World, Calls Tryz.prog 25 #[.int .i64 0, .agg #[.int .i64 k, .int .i64 n, .int .i64 d, .string s], .agg #[.int .i64 k', .int .i64 n', .int .i64 d', .string s']] W fun e w' => e = .returned (.tuple #[.agg #[.int .i64 K, .int .i64 N, .int .i64 D, .string ⟨#[]⟩], .int .i64 E]) ∧ Below W.heap.size W w') ∧ Hid (∀ W : World, Calls Tryz.prog 22 #[.int .i64 1, .agg #[.int .i64 k, .int .i64 n, .int .i64 d, .string s], .agg #[.int .i64 k', .int .i64 n', .int .i64 d', .string s']] W fun e w' => e = .returned (.tuple #[.agg #[.int .i64 K, .int .i64 N, .int .i64 D, .string ⟨#[]⟩], .int .i64 E]) ∧ Below W.heap.size W w') := by
  by_cases c1 : chk k n d s = 0
  · by_cases c2 : chk k' n' d' s' = 0
    · by_cases hk : k = k'
      · subst hk
        rcases chk_kind c1 with rfl | rfl | rfl
        · exact ⟨_, _, _, _, fun W => rk_Add1 (tN n 1 n' 1 (n * 1 + n' * 1) (1 * 1)) (tD n 1 n' 1 (n * 1 + n' * 1) (1 * 1)) (tE n 1 n' 1 (n * 1 + n' * 1) (1 * 1)) n d s n' d' s' W h1 h2 g1 g2 h1' h2' g1' g2' rfl rfl rfl c1 c2, fun W => drk_Add1 (tN n 1 n' 1 (n * 1 + n' * 1) (1 * 1)) (tD n 1 n' 1 (n * 1 + n' * 1) (1 * 1)) (tE n 1 n' 1 (n * 1 + n' * 1) (1 * 1)) n d s n' d' s' W h1 h2 g1 g2 h1' h2' g1' g2' c1 c2 (fun W2 => radd_all n 1 n' 1 W2 h1 h2 (by omega) (by omega) h1' h2' (by omega) (by omega))⟩
        · exact ⟨_, _, _, _, fun W => rk_Add2 (tN n d n' d' (n * d' + n' * d) (d * d')) (tD n d n' d' (n * d' + n' * d) (d * d')) (tE n d n' d' (n * d' + n' * d) (d * d')) n d s n' d' s' W h1 h2 g1 g2 h1' h2' g1' g2' rfl rfl rfl c1 c2, fun W => drk_Add2 (tN n d n' d' (n * d' + n' * d) (d * d')) (tD n d n' d' (n * d' + n' * d) (d * d')) (tE n d n' d' (n * d' + n' * d) (d * d')) n d s n' d' s' W h1 h2 g1 g2 h1' h2' g1' g2' c1 c2 (fun W2 => radd_all n d n' d' W2 h1 h2 g1 g2 h1' h2' g1' g2')⟩
        · exact ⟨0, 0, 0, 20, fun W => rk_kind2 0 3 n d s 3 n' d' s' W h1 h2 g1 g2 h1' h2' g1' g2' c1 c2 rfl rfl, fun W => drk_kind2 1 3 n d s 3 n' d' s' W h1 h2 g1 g2 h1' h2' g1' g2' c1 c2 rfl rfl⟩
      · exact ⟨0, 0, 0, 20, fun W => rk_kind1 0 k n d s k' n' d' s' W h1 h2 g1 g2 h1' h2' g1' g2' c1 c2 (by simpa using hk), fun W => drk_kind1 1 k n d s k' n' d' s' W h1 h2 g1 g2 h1' h2' g1' g2' c1 c2 (by simpa using hk)⟩
    · exact ⟨0, 0, 0, _, fun W => rk_chk2 0 k n d s k' n' d' s' W h1 h2 g1 g2 h1' h2' g1' g2' c1 (by simpa using c2), fun W => drk_chk2 1 k n d s k' n' d' s' W h1 h2 g1 g2 h1' h2' g1' g2' c1 (by simpa using c2)⟩
  · exact ⟨0, 0, 0, _, fun W => rk_chk1 0 k n d s k' n' d' s' W h1 h2 g1 g2 h1' h2' g1' g2' (by simpa using c1), fun W => drk_chk1 1 k n d s k' n' d' s' W h1 h2 g1 g2 h1' h2' g1' g2' (by simpa using c1)⟩

theorem agree_Sub (k n d : Int) (s : ByteArray) (k' n' d' : Int) (s' : ByteArray) (h1 : -9223372036854775808 ≤ n) (h2 : n ≤ 9223372036854775807) (g1 : -9223372036854775808 ≤ d) (g2 : d ≤ 9223372036854775807) (h1' : -9223372036854775808 ≤ n') (h2' : n' ≤ 9223372036854775807) (g1' : -9223372036854775808 ≤ d') (g2' : d' ≤ 9223372036854775807) :
    ∃ K N D E : Int, Hid (∀ W : World, Calls Tryz.prog 25 #[.int .i64 1, .agg #[.int .i64 k, .int .i64 n, .int .i64 d, .string s], .agg #[.int .i64 k', .int .i64 n', .int .i64 d', .string s']] W fun e w' => e = .returned (.tuple #[.agg #[.int .i64 K, .int .i64 N, .int .i64 D, .string ⟨#[]⟩], .int .i64 E]) ∧ Below W.heap.size W w') ∧ Hid (∀ W : World, Calls Tryz.prog 22 #[.int .i64 2, .agg #[.int .i64 k, .int .i64 n, .int .i64 d, .string s], .agg #[.int .i64 k', .int .i64 n', .int .i64 d', .string s']] W fun e w' => e = .returned (.tuple #[.agg #[.int .i64 K, .int .i64 N, .int .i64 D, .string ⟨#[]⟩], .int .i64 E]) ∧ Below W.heap.size W w') := by
  by_cases c1 : chk k n d s = 0
  · by_cases c2 : chk k' n' d' s' = 0
    · by_cases hk : k = k'
      · subst hk
        rcases chk_kind c1 with rfl | rfl | rfl
        · exact ⟨_, _, _, _, fun W => rk_Sub1 (tN n 1 n' 1 (n * 1 - n' * 1) (1 * 1)) (tD n 1 n' 1 (n * 1 - n' * 1) (1 * 1)) (tE n 1 n' 1 (n * 1 - n' * 1) (1 * 1)) n d s n' d' s' W h1 h2 g1 g2 h1' h2' g1' g2' rfl rfl rfl c1 c2, fun W => drk_Sub1 (tN n 1 n' 1 (n * 1 - n' * 1) (1 * 1)) (tD n 1 n' 1 (n * 1 - n' * 1) (1 * 1)) (tE n 1 n' 1 (n * 1 - n' * 1) (1 * 1)) n d s n' d' s' W h1 h2 g1 g2 h1' h2' g1' g2' c1 c2 (fun W2 => rsub_all n 1 n' 1 W2 h1 h2 (by omega) (by omega) h1' h2' (by omega) (by omega))⟩
        · exact ⟨_, _, _, _, fun W => rk_Sub2 (tN n d n' d' (n * d' - n' * d) (d * d')) (tD n d n' d' (n * d' - n' * d) (d * d')) (tE n d n' d' (n * d' - n' * d) (d * d')) n d s n' d' s' W h1 h2 g1 g2 h1' h2' g1' g2' rfl rfl rfl c1 c2, fun W => drk_Sub2 (tN n d n' d' (n * d' - n' * d) (d * d')) (tD n d n' d' (n * d' - n' * d) (d * d')) (tE n d n' d' (n * d' - n' * d) (d * d')) n d s n' d' s' W h1 h2 g1 g2 h1' h2' g1' g2' c1 c2 (fun W2 => rsub_all n d n' d' W2 h1 h2 g1 g2 h1' h2' g1' g2')⟩
        · exact ⟨0, 0, 0, 20, fun W => rk_kind2 1 3 n d s 3 n' d' s' W h1 h2 g1 g2 h1' h2' g1' g2' c1 c2 rfl rfl, fun W => drk_kind2 2 3 n d s 3 n' d' s' W h1 h2 g1 g2 h1' h2' g1' g2' c1 c2 rfl rfl⟩
      · exact ⟨0, 0, 0, 20, fun W => rk_kind1 1 k n d s k' n' d' s' W h1 h2 g1 g2 h1' h2' g1' g2' c1 c2 (by simpa using hk), fun W => drk_kind1 2 k n d s k' n' d' s' W h1 h2 g1 g2 h1' h2' g1' g2' c1 c2 (by simpa using hk)⟩
    · exact ⟨0, 0, 0, _, fun W => rk_chk2 1 k n d s k' n' d' s' W h1 h2 g1 g2 h1' h2' g1' g2' c1 (by simpa using c2), fun W => drk_chk2 2 k n d s k' n' d' s' W h1 h2 g1 g2 h1' h2' g1' g2' c1 (by simpa using c2)⟩
  · exact ⟨0, 0, 0, _, fun W => rk_chk1 1 k n d s k' n' d' s' W h1 h2 g1 g2 h1' h2' g1' g2' (by simpa using c1), fun W => drk_chk1 2 k n d s k' n' d' s' W h1 h2 g1 g2 h1' h2' g1' g2' (by simpa using c1)⟩

theorem agree_Mul (k n d : Int) (s : ByteArray) (k' n' d' : Int) (s' : ByteArray) (h1 : -9223372036854775808 ≤ n) (h2 : n ≤ 9223372036854775807) (g1 : -9223372036854775808 ≤ d) (g2 : d ≤ 9223372036854775807) (h1' : -9223372036854775808 ≤ n') (h2' : n' ≤ 9223372036854775807) (g1' : -9223372036854775808 ≤ d') (g2' : d' ≤ 9223372036854775807) :
    ∃ K N D E : Int, Hid (∀ W : World, Calls Tryz.prog 25 #[.int .i64 2, .agg #[.int .i64 k, .int .i64 n, .int .i64 d, .string s], .agg #[.int .i64 k', .int .i64 n', .int .i64 d', .string s']] W fun e w' => e = .returned (.tuple #[.agg #[.int .i64 K, .int .i64 N, .int .i64 D, .string ⟨#[]⟩], .int .i64 E]) ∧ Below W.heap.size W w') ∧ Hid (∀ W : World, Calls Tryz.prog 22 #[.int .i64 3, .agg #[.int .i64 k, .int .i64 n, .int .i64 d, .string s], .agg #[.int .i64 k', .int .i64 n', .int .i64 d', .string s']] W fun e w' => e = .returned (.tuple #[.agg #[.int .i64 K, .int .i64 N, .int .i64 D, .string ⟨#[]⟩], .int .i64 E]) ∧ Below W.heap.size W w') := by
  by_cases c1 : chk k n d s = 0
  · by_cases c2 : chk k' n' d' s' = 0
    · by_cases hk : k = k'
      · subst hk
        rcases chk_kind c1 with rfl | rfl | rfl
        · exact ⟨_, _, _, _, fun W => rk_Mul1 (tN n 1 n' 1 (n * n') (1 * 1)) (tD n 1 n' 1 (n * n') (1 * 1)) (tE n 1 n' 1 (n * n') (1 * 1)) n d s n' d' s' W h1 h2 g1 g2 h1' h2' g1' g2' rfl rfl rfl c1 c2, fun W => drk_Mul1 (tN n 1 n' 1 (n * n') (1 * 1)) (tD n 1 n' 1 (n * n') (1 * 1)) (tE n 1 n' 1 (n * n') (1 * 1)) n d s n' d' s' W h1 h2 g1 g2 h1' h2' g1' g2' c1 c2 (fun W2 => rmul_all n 1 n' 1 W2 h1 h2 (by omega) (by omega) h1' h2' (by omega) (by omega))⟩
        · exact ⟨_, _, _, _, fun W => rk_Mul2 (tN n d n' d' (n * n') (d * d')) (tD n d n' d' (n * n') (d * d')) (tE n d n' d' (n * n') (d * d')) n d s n' d' s' W h1 h2 g1 g2 h1' h2' g1' g2' rfl rfl rfl c1 c2, fun W => drk_Mul2 (tN n d n' d' (n * n') (d * d')) (tD n d n' d' (n * n') (d * d')) (tE n d n' d' (n * n') (d * d')) n d s n' d' s' W h1 h2 g1 g2 h1' h2' g1' g2' c1 c2 (fun W2 => rmul_all n d n' d' W2 h1 h2 g1 g2 h1' h2' g1' g2')⟩
        · exact ⟨0, 0, 0, 20, fun W => rk_kind2 2 3 n d s 3 n' d' s' W h1 h2 g1 g2 h1' h2' g1' g2' c1 c2 rfl rfl, fun W => drk_kind2 3 3 n d s 3 n' d' s' W h1 h2 g1 g2 h1' h2' g1' g2' c1 c2 rfl rfl⟩
      · exact ⟨0, 0, 0, 20, fun W => rk_kind1 2 k n d s k' n' d' s' W h1 h2 g1 g2 h1' h2' g1' g2' c1 c2 (by simpa using hk), fun W => drk_kind1 3 k n d s k' n' d' s' W h1 h2 g1 g2 h1' h2' g1' g2' c1 c2 (by simpa using hk)⟩
    · exact ⟨0, 0, 0, _, fun W => rk_chk2 2 k n d s k' n' d' s' W h1 h2 g1 g2 h1' h2' g1' g2' c1 (by simpa using c2), fun W => drk_chk2 3 k n d s k' n' d' s' W h1 h2 g1 g2 h1' h2' g1' g2' c1 (by simpa using c2)⟩
  · exact ⟨0, 0, 0, _, fun W => rk_chk1 2 k n d s k' n' d' s' W h1 h2 g1 g2 h1' h2' g1' g2' (by simpa using c1), fun W => drk_chk1 3 k n d s k' n' d' s' W h1 h2 g1 g2 h1' h2' g1' g2' (by simpa using c1)⟩

end Go.Proofs.YtedoahibceeklaaGreatDoor

namespace Go.Proofs.YtedoahibceeklaaGreatDoor
open Go.RowKit Go.Shelf
set_option linter.unusedVariables false

set_option maxRecDepth 100000 in
set_option maxHeartbeats 4000000 in
theorem reckons_walk (k n d : Int) (s : ByteArray) (k' n' d' : Int) (s' : ByteArray) (h1 : -9223372036854775808 ≤ n) (h2 : n ≤ 9223372036854775807) (g1 : -9223372036854775808 ≤ d) (g2 : d ≤ 9223372036854775807) (h1' : -9223372036854775808 ≤ n') (h2' : n' ≤ 9223372036854775807) (g1' : -9223372036854775808 ≤ d') (g2' : d' ≤ 9223372036854775807) (w : World) (ht : Pow w) :
    Calls Tryz.prog 8 #[.agg #[.int .i64 k, .int .i64 n, .int .i64 d, .string s], .agg #[.int .i64 k', .int .i64 n', .int .i64 d', .string s']] w fun e w' => e = .returned (.bool true) ∧ Below w.heap.size w w' := by
  obtain ⟨K0, N0, D0, E0, r0, q0⟩ := agree_Add k n d s k' n' d' s' h1 h2 g1 g2 h1' h2' g1' g2'
  have p0 : Hid (∀ W : World, Calls Tryz.prog 9 #[.agg #[.int .i64 k, .int .i64 n, .int .i64 d, .string s], .agg #[.int .i64 k', .int .i64 n', .int .i64 d', .string s']] W fun e w' => e = .returned (.tuple #[.agg #[.int .i64 K0, .int .i64 N0, .int .i64 D0, .string ⟨#[]⟩], .int .i64 E0]) ∧ Below W.heap.size W w') := fun W => vadd k n d s k' n' d' s' K0 N0 D0 ⟨#[]⟩ E0 W r0
  obtain ⟨K1, N1, D1, E1, r1, q1⟩ := agree_Sub k n d s k' n' d' s' h1 h2 g1 g2 h1' h2' g1' g2'
  have p1 : Hid (∀ W : World, Calls Tryz.prog 23 #[.agg #[.int .i64 k, .int .i64 n, .int .i64 d, .string s], .agg #[.int .i64 k', .int .i64 n', .int .i64 d', .string s']] W fun e w' => e = .returned (.tuple #[.agg #[.int .i64 K1, .int .i64 N1, .int .i64 D1, .string ⟨#[]⟩], .int .i64 E1]) ∧ Below W.heap.size W w') := fun W => vsub k n d s k' n' d' s' K1 N1 D1 ⟨#[]⟩ E1 W r1
  obtain ⟨K2, N2, D2, E2, r2, q2⟩ := agree_Mul k n d s k' n' d' s' h1 h2 g1 g2 h1' h2' g1' g2'
  have p2 : Hid (∀ W : World, Calls Tryz.prog 24 #[.agg #[.int .i64 k, .int .i64 n, .int .i64 d, .string s], .agg #[.int .i64 k', .int .i64 n', .int .i64 d', .string s']] W fun e w' => e = .returned (.tuple #[.agg #[.int .i64 K2, .int .i64 N2, .int .i64 D2, .string ⟨#[]⟩], .int .i64 E2]) ∧ Below W.heap.size W w') := fun W => vmul k n d s k' n' d' s' K2 N2 D2 ⟨#[]⟩ E2 W r2
  clear r0 r1 r2 h1 h2 g1 g2 h1' h2' g1' g2'
  go_enter Tryz.func8, Tryz.ntmps8
  go_upto_region 1 with fail
  refine wp_world ?_
  intro V0 hV0
  have A0 : Hid (BlkV V0 w.heap.size k n d s) := by rw [hV0]; constructor <;> simp (maxDischargeDepth := 12) [go_sem]
  have B0 : Hid (BlkV V0 (w.heap.size + 1) k' n' d' s') := by rw [hV0]; constructor <;> simp (maxDischargeDepth := 12) [go_sem]
  have z0 : w.heap.size + 1 < V0.heap.size := by rw [hV0]; simp
  have L0 : Below w.heap.size w V0 := by rw [hV0]; go_grown
  clear hV0
  obtain ⟨a0, a1, a2, a3, -, -, -, -⟩ := A0.out
  obtain ⟨b0, b1, b2, b3, -, -, -, -⟩ := B0.out
  go_wp2_with fail
  refine (p0.out _).mono ?_
  rintro e w1 ⟨rfl, hb⟩
  clear a0 a1 a2 a3 b0 b1 b2 b3
  have m1 := hb.size
  go_upto_region 2 with fail
  refine wp_world ?_
  intro V1 hV
  have st : Below V0.heap.size V0 V1 := by rw [hV]; exact hb.alloc hb.size _
  have X1_1 : Hid (BlkV V1 w1.heap.size K0 N0 D0 ⟨#[]⟩) := by rw [hV]; constructor <;> simp (maxDischargeDepth := 12) [go_sem]
  have y1_1 : w1.heap.size < V1.heap.size := by rw [hV]; simp
  clear hV
  have st' := st.size
  have A1 : Hid (BlkV V1 w.heap.size k n d s) := A0.out.below st (by omega)
  have B1 : Hid (BlkV V1 (w.heap.size + 1) k' n' d' s') := B0.out.below st z0
  have z1 : w.heap.size + 1 < V1.heap.size := by omega
  have L1 : Below w.heap.size w V1 := L0.trans (st.mono L0.size)
  clear A0 B0 z0 L0 st st' hb 
  obtain ⟨a0, a1, a2, a3, -, -, -, -⟩ := A1.out
  obtain ⟨b0, b1, b2, b3, -, -, -, -⟩ := B1.out
  go_wp2_with fail
  refine (q0.out _).mono ?_
  rintro e w2 ⟨rfl, hb⟩
  clear a0 a1 a2 a3 b0 b1 b2 b3
  have m2 := hb.size
  go_upto_region 3 with fail
  refine wp_world ?_
  intro V2 hV
  have st : Below V1.heap.size V1 V2 := by rw [hV]; exact hb.alloc hb.size _
  have X2_2 : Hid (BlkV V2 w2.heap.size K0 N0 D0 ⟨#[]⟩) := by rw [hV]; constructor <;> simp (maxDischargeDepth := 12) [go_sem]
  have y2_2 : w2.heap.size < V2.heap.size := by rw [hV]; simp
  clear hV
  have st' := st.size
  have A2 : Hid (BlkV V2 w.heap.size k n d s) := A1.out.below st (by omega)
  have B2 : Hid (BlkV V2 (w.heap.size + 1) k' n' d' s') := B1.out.below st z1
  have z2 : w.heap.size + 1 < V2.heap.size := by omega
  have L2 : Below w.heap.size w V2 := L1.trans (st.mono L1.size)
  have X1_2 : Hid (BlkV V2 w1.heap.size K0 N0 D0 ⟨#[]⟩) := X1_1.out.below st y1_1
  have y1_2 : w1.heap.size < V2.heap.size := by omega
  clear A1 B1 z1 L1 st st' hb X1_1 y1_1
  obtain ⟨a0, a1, a2, a3, -, -, -, -⟩ := A2.out
  obtain ⟨b0, b1, b2, b3, -, -, -, -⟩ := B2.out
  go_wp2_with fail
  refine (p1.out _).mono ?_
  rintro e w3 ⟨rfl, hb⟩
  clear a0 a1 a2 a3 b0 b1 b2 b3
  have m3 := hb.size
  go_upto_region 4 with fail
  refine wp_world ?_
  intro V3 hV
  have st : Below V2.heap.size V2 V3 := by rw [hV]; exact hb.alloc hb.size _
  have X3_3 : Hid (BlkV V3 w3.heap.size K1 N1 D1 ⟨#[]⟩) := by rw [hV]; constructor <;> simp (maxDischargeDepth := 12) [go_sem]
  have y3_3 : w3.heap.size < V3.heap.size := by rw [hV]; simp
  clear hV
  have st' := st.size
  have A3 : Hid (BlkV V3 w.heap.size k n d s) := A2.out.below st (by omega)
  have B3 : Hid (BlkV V3 (w.heap.size + 1) k' n' d' s') := B2.out.below st z2
  have z3 : w.heap.size + 1 < V3.heap.size := by omega
  have L3 : Below w.heap.size w V3 := L2.trans (st.mono L2.size)
  have X1_3 : Hid (BlkV V3 w1.heap.size K0 N0 D0 ⟨#[]⟩) := X1_2.out.below st y1_2
  have y1_3 : w1.heap.size < V3.heap.size := by omega
  have X2_3 : Hid (BlkV V3 w2.heap.size K0 N0 D0 ⟨#[]⟩) := X2_2.out.below st y2_2
  have y2_3 : w2.heap.size < V3.heap.size := by omega
  clear A2 B2 z2 L2 st st' hb X1_2 y1_2 X2_2 y2_2
  obtain ⟨a0, a1, a2, a3, -, -, -, -⟩ := A3.out
  obtain ⟨b0, b1, b2, b3, -, -, -, -⟩ := B3.out
  go_wp2_with fail
  refine (q1.out _).mono ?_
  rintro e w4 ⟨rfl, hb⟩
  clear a0 a1 a2 a3 b0 b1 b2 b3
  have m4 := hb.size
  go_upto_region 5 with fail
  refine wp_world ?_
  intro V4 hV
  have st : Below V3.heap.size V3 V4 := by rw [hV]; exact hb.alloc hb.size _
  have X4_4 : Hid (BlkV V4 w4.heap.size K1 N1 D1 ⟨#[]⟩) := by rw [hV]; constructor <;> simp (maxDischargeDepth := 12) [go_sem]
  have y4_4 : w4.heap.size < V4.heap.size := by rw [hV]; simp
  clear hV
  have st' := st.size
  have A4 : Hid (BlkV V4 w.heap.size k n d s) := A3.out.below st (by omega)
  have B4 : Hid (BlkV V4 (w.heap.size + 1) k' n' d' s') := B3.out.below st z3
  have z4 : w.heap.size + 1 < V4.heap.size := by omega
  have L4 : Below w.heap.size w V4 := L3.trans (st.mono L3.size)
  have X1_4 : Hid (BlkV V4 w1.heap.size K0 N0 D0 ⟨#[]⟩) := X1_3.out.below st y1_3
  have y1_4 : w1.heap.size < V4.heap.size := by omega
  have X2_4 : Hid (BlkV V4 w2.heap.size K0 N0 D0 ⟨#[]⟩) := X2_3.out.below st y2_3
  have y2_4 : w2.heap.size < V4.heap.size := by omega
  have X3_4 : Hid (BlkV V4 w3.heap.size K1 N1 D1 ⟨#[]⟩) := X3_3.out.below st y3_3
  have y3_4 : w3.heap.size < V4.heap.size := by omega
  clear A3 B3 z3 L3 st st' hb X1_3 y1_3 X2_3 y2_3 X3_3 y3_3
  obtain ⟨a0, a1, a2, a3, -, -, -, -⟩ := A4.out
  obtain ⟨b0, b1, b2, b3, -, -, -, -⟩ := B4.out
  go_wp2_with fail
  refine (p2.out _).mono ?_
  rintro e w5 ⟨rfl, hb⟩
  clear a0 a1 a2 a3 b0 b1 b2 b3
  have m5 := hb.size
  go_upto_region 6 with fail
  refine wp_world ?_
  intro V5 hV
  have st : Below V4.heap.size V4 V5 := by rw [hV]; exact hb.alloc hb.size _
  have X5_5 : Hid (BlkV V5 w5.heap.size K2 N2 D2 ⟨#[]⟩) := by rw [hV]; constructor <;> simp (maxDischargeDepth := 12) [go_sem]
  have y5_5 : w5.heap.size < V5.heap.size := by rw [hV]; simp
  clear hV
  have st' := st.size
  have A5 : Hid (BlkV V5 w.heap.size k n d s) := A4.out.below st (by omega)
  have B5 : Hid (BlkV V5 (w.heap.size + 1) k' n' d' s') := B4.out.below st z4
  have z5 : w.heap.size + 1 < V5.heap.size := by omega
  have L5 : Below w.heap.size w V5 := L4.trans (st.mono L4.size)
  have X1_5 : Hid (BlkV V5 w1.heap.size K0 N0 D0 ⟨#[]⟩) := X1_4.out.below st y1_4
  have y1_5 : w1.heap.size < V5.heap.size := by omega
  have X2_5 : Hid (BlkV V5 w2.heap.size K0 N0 D0 ⟨#[]⟩) := X2_4.out.below st y2_4
  have y2_5 : w2.heap.size < V5.heap.size := by omega
  have X3_5 : Hid (BlkV V5 w3.heap.size K1 N1 D1 ⟨#[]⟩) := X3_4.out.below st y3_4
  have y3_5 : w3.heap.size < V5.heap.size := by omega
  have X4_5 : Hid (BlkV V5 w4.heap.size K1 N1 D1 ⟨#[]⟩) := X4_4.out.below st y4_4
  have y4_5 : w4.heap.size < V5.heap.size := by omega
  clear A4 B4 z4 L4 st st' hb X1_4 y1_4 X2_4 y2_4 X3_4 y3_4 X4_4 y4_4
  obtain ⟨a0, a1, a2, a3, -, -, -, -⟩ := A5.out
  obtain ⟨b0, b1, b2, b3, -, -, -, -⟩ := B5.out
  go_wp2_with fail
  refine (q2.out _).mono ?_
  rintro e w6 ⟨rfl, hb⟩
  clear a0 a1 a2 a3 b0 b1 b2 b3
  have m6 := hb.size
  go_upto_region 7 with fail
  refine wp_world ?_
  intro V6 hV
  have st : Below V5.heap.size V5 V6 := by rw [hV]; exact hb.alloc hb.size _
  have X6_6 : Hid (BlkV V6 w6.heap.size K2 N2 D2 ⟨#[]⟩) := by rw [hV]; constructor <;> simp (maxDischargeDepth := 12) [go_sem]
  have y6_6 : w6.heap.size < V6.heap.size := by rw [hV]; simp
  clear hV
  have st' := st.size
  have A6 : Hid (BlkV V6 w.heap.size k n d s) := A5.out.below st (by omega)
  have B6 : Hid (BlkV V6 (w.heap.size + 1) k' n' d' s') := B5.out.below st z5
  have z6 : w.heap.size + 1 < V6.heap.size := by omega
  have L6 : Below w.heap.size w V6 := L5.trans (st.mono L5.size)
  have X1_6 : Hid (BlkV V6 w1.heap.size K0 N0 D0 ⟨#[]⟩) := X1_5.out.below st y1_5
  have y1_6 : w1.heap.size < V6.heap.size := by omega
  have X2_6 : Hid (BlkV V6 w2.heap.size K0 N0 D0 ⟨#[]⟩) := X2_5.out.below st y2_5
  have y2_6 : w2.heap.size < V6.heap.size := by omega
  have X3_6 : Hid (BlkV V6 w3.heap.size K1 N1 D1 ⟨#[]⟩) := X3_5.out.below st y3_5
  have y3_6 : w3.heap.size < V6.heap.size := by omega
  have X4_6 : Hid (BlkV V6 w4.heap.size K1 N1 D1 ⟨#[]⟩) := X4_5.out.below st y4_5
  have y4_6 : w4.heap.size < V6.heap.size := by omega
  have X5_6 : Hid (BlkV V6 w5.heap.size K2 N2 D2 ⟨#[]⟩) := X5_5.out.below st y5_5
  have y5_6 : w5.heap.size < V6.heap.size := by omega
  clear A5 B5 z5 L5 st st' hb X1_5 y1_5 X2_5 y2_5 X3_5 y3_5 X4_5 y4_5 X5_5 y5_5
  go_wp2_with fail
  refine (live_any _ (ht.below L6)).mono ?_
  rintro e u0 ⟨rfl, hb⟩
  have hbs := hb.size
  have X1_7 : Hid (BlkV u0 w1.heap.size K0 N0 D0 ⟨#[]⟩) := X1_6.out.below hb y1_6
  have y1_7 : w1.heap.size < u0.heap.size := by omega
  have X2_7 : Hid (BlkV u0 w2.heap.size K0 N0 D0 ⟨#[]⟩) := X2_6.out.below hb y2_6
  have y2_7 : w2.heap.size < u0.heap.size := by omega
  have X3_7 : Hid (BlkV u0 w3.heap.size K1 N1 D1 ⟨#[]⟩) := X3_6.out.below hb y3_6
  have y3_7 : w3.heap.size < u0.heap.size := by omega
  have X4_7 : Hid (BlkV u0 w4.heap.size K1 N1 D1 ⟨#[]⟩) := X4_6.out.below hb y4_6
  have y4_7 : w4.heap.size < u0.heap.size := by omega
  have X5_7 : Hid (BlkV u0 w5.heap.size K2 N2 D2 ⟨#[]⟩) := X5_6.out.below hb y5_6
  have y5_7 : w5.heap.size < u0.heap.size := by omega
  have X6_7 : Hid (BlkV u0 w6.heap.size K2 N2 D2 ⟨#[]⟩) := X6_6.out.below hb y6_6
  have y6_7 : w6.heap.size < u0.heap.size := by omega
  have M0 : Below w.heap.size w u0 := L6.trans (hb.mono L6.size)
  clear A6 B6 z6 L6 hb hbs X1_6 y1_6 X2_6 y2_6 X3_6 y3_6 X4_6 y4_6 X5_6 y5_6 X6_6 y6_6
  obtain ⟨a0, a1, a2, a3, -, -, -, -⟩ := X1_7.out
  obtain ⟨b0, b1, b2, b3, -, -, -, -⟩ := X2_7.out
  go_wp2_with fail
  refine (lsame_yes _ _ _ _ _).mono ?_
  rintro e u1 ⟨rfl, hb⟩
  clear a0 a1 a2 a3 b0 b1 b2 b3
  have hbs := hb.size
  have M1 : Below w.heap.size w u1 := M0.trans (hb.mono M0.size)
  have X3_8 : Hid (BlkV u1 w3.heap.size K1 N1 D1 ⟨#[]⟩) := X3_7.out.below hb y3_7
  have y3_8 : w3.heap.size < u1.heap.size := by omega
  have X4_8 : Hid (BlkV u1 w4.heap.size K1 N1 D1 ⟨#[]⟩) := X4_7.out.below hb y4_7
  have y4_8 : w4.heap.size < u1.heap.size := by omega
  have X5_8 : Hid (BlkV u1 w5.heap.size K2 N2 D2 ⟨#[]⟩) := X5_7.out.below hb y5_7
  have y5_8 : w5.heap.size < u1.heap.size := by omega
  have X6_8 : Hid (BlkV u1 w6.heap.size K2 N2 D2 ⟨#[]⟩) := X6_7.out.below hb y6_7
  have y6_8 : w6.heap.size < u1.heap.size := by omega
  clear hb hbs
  obtain ⟨a0, a1, a2, a3, -, -, -, -⟩ := X3_8.out
  obtain ⟨b0, b1, b2, b3, -, -, -, -⟩ := X4_8.out
  go_wp2_with fail
  refine (lsame_yes _ _ _ _ _).mono ?_
  rintro e u2 ⟨rfl, hb⟩
  clear a0 a1 a2 a3 b0 b1 b2 b3
  have hbs := hb.size
  have M2 : Below w.heap.size w u2 := M1.trans (hb.mono M1.size)
  have X5_9 : Hid (BlkV u2 w5.heap.size K2 N2 D2 ⟨#[]⟩) := X5_8.out.below hb y5_8
  have y5_9 : w5.heap.size < u2.heap.size := by omega
  have X6_9 : Hid (BlkV u2 w6.heap.size K2 N2 D2 ⟨#[]⟩) := X6_8.out.below hb y6_8
  have y6_9 : w6.heap.size < u2.heap.size := by omega
  clear hb hbs
  obtain ⟨a0, a1, a2, a3, -, -, -, -⟩ := X5_9.out
  obtain ⟨b0, b1, b2, b3, -, -, -, -⟩ := X6_9.out
  go_wp2_with fail
  refine (lsame_yes _ _ _ _ _).mono ?_
  rintro e u3 ⟨rfl, hb⟩
  clear a0 a1 a2 a3 b0 b1 b2 b3
  have hbs := hb.size
  have M3 : Below w.heap.size w u3 := M2.trans (hb.mono M2.size)
  clear hb hbs
  go_wp2
  go_ret
  exact ⟨rfl, M3⟩

end Go.Proofs.YtedoahibceeklaaGreatDoor

namespace Go.Proofs.YtedoahibceeklaaGreatDoor.valueReckons
open Go.Joins Go.ChangeShapes Go.WideShapes Go.ChangeAt Go.RowKit
set_option linter.unusedVariables false
set_option maxRecDepth 100000

theorem own : ownKnob Tryz.prog.godebug = none := by kernel_rfl
theorem gTab : Tryz.prog.globalNamed "internal/strconv.uint64pow10" = some 5 := by kernel_rfl
theorem gTabType : (Tryz.prog.globals[5]?).map (·.type) = some 151 := by kernel_rfl
theorem cellsT : Tryz.prog.cellsOf 151 = 20 := by kernel_rfl
theorem cellsE : Tryz.prog.cellsOf 67 = 1 := by kernel_rfl

/-- What the row's list gives: the table of the powers of ten. -/
theorem table {W : World} (h : laidMetH Tryz.prog Rows.valueReckonsRow.laid W) : Pow W := by
  have h0 : laidMet Tryz.prog Rows.valueReckonsRow.laid W := h
  exact Lib.tabIs_of_head gTab gTabType Tryz.underlying151 Tryz.underlying67 cellsE cellsT (laidMet.tail (laidMet.tail h0))

theorem cellsV : Tryz.prog.cellsOf 23 = 4 := by kernel_rfl
theorem bds {x : Int} (h : (Lit.int .i64 x).wf = true) : -9223372036854775808 ≤ x ∧ x ≤ 9223372036854775807 := by
  simp [Lit.wf, IntKind.min, IntKind.max, IntKind.signed, IntKind.bits] at h
  omega

/-- The row's end, where nothing that was there has turned and nothing is asked again. -/
theorem post_new {H : Type} {enc : TypeId × Value → H} {P : Program} {f : Func} {s : ChangeSpec} {apart fresh handsOn : Bool} {W W' : World} {args : Array Value} {v : Value} {ds gs : List (DataW H)} {before pa pv : List MemPlace}
    (hW : DataW.Whole enc P f.params.toList s.vars apart W args.toList ds gs before)
    (hres : ∀ (b : Nat) (sp : Nat → Bool) (hd : Bool), DataW.TrodAll enc P W' b sp hd f.resultTypes.toList (v.resultList f.resultTypes.size) (s.fn H (ds ++ gs)).results [])
    (hargs : ∀ sp : Nat → Bool, DataW.TrodAll enc P W' 0 sp true f.params.toList args.toList (s.fn H (ds ++ gs)).args pa)
    (hvars : ∀ sp : Nat → Bool, DataW.TrodVars enc P W' sp s.vars (s.fn H (ds ++ gs)).vars pv)
    (hps : before = pa ++ pv) (hk : W.keptBut W' (· ∈ before)) : s.post enc P f apart fresh handsOn false W args v W' :=
  ⟨ds, gs, before, [], pa, pv, hW, hres _ _ _, hargs _, hvars _, World.keptBut_mono (fun _ hp => ⟨hp, Or.inr (List.mem_append.1 (hps ▸ hp))⟩) hk, fun h => Bool.noConfusion h⟩

/-- What the walk gives in every world that holds the table. -/
theorem contract (H : Type) (enc : TypeId × Value → H) (W : World) (base : Nat) (args : Array Value) (ds gs : List (DataW H)) (before : List MemPlace)
    (hval : ∀ (j : Nat) t v, Tryz.f8.params[j]? = some t → args[j]? = some v → Value.okWide Tryz.prog W .any base t v)
    (hW : DataW.Whole enc Tryz.prog Tryz.f8.params.toList Rows.valueReckonsSpec.vars false W args.toList ds gs before) (hL : laidMetH Tryz.prog Rows.valueReckonsRow.laid W) :
    Calls Tryz.prog 8 args W fun e W' => ∃ v, e = .returned v ∧ Rows.valueReckonsSpec.post enc Tryz.prog Tryz.f8 false true false false W args v W' := by
  have hW' := hW
  obtain ⟨p, q, hA0, hV, rfl, hfz, hnd⟩ := hW
  have hA : DataW.TrodAll enc Tryz.prog W 0 (fun _ => true) true Tryz.f8.params.toList args.toList ds p := hA0
  rw [Tryz.params8] at hA hval
  obtain ⟨v0, vs0, d0, ds0, p0, q0, hargs, rfl, rfl, h0, r0⟩ := trodAll_cons hA
  obtain ⟨v1, vs1, d1, ds1, p1, q1, rfl, rfl, rfl, h1, r1⟩ := trodAll_cons r0
  obtain ⟨rfl, rfl, rfl⟩ := trodAll_nil r1
  obtain rfl : args = #[v0, v1] := by cases args; simp_all
  obtain ⟨rfl, rfl⟩ := trodVars_none hV
  obtain ⟨c0, c1, c2, c3, y0, y1, y2, y3, m0, rfl, rfl, rfl, hy0, hy1, hy2, hy3⟩ := open_agg4 Tryz.underlying23 (by kernel_rfl) cellsV (hval 0 23 v0 rfl rfl) h0
  obtain ⟨x0, e0, rfl, wx0⟩ := DataW.trod_int Tryz.underlying3 hy0
  obtain ⟨x1, e1, rfl, wx1⟩ := DataW.trod_int Tryz.underlying2 hy1
  obtain ⟨x2, e2, rfl, wx2⟩ := DataW.trod_int Tryz.underlying2 hy2
  obtain ⟨x3, e3, rfl, wx3⟩ := DataW.trod_string Tryz.underlying9 hy3
  simp at e0 e1 e2 e3
  subst e0 e1 e2 e3
  obtain ⟨c4, c5, c6, c7, y4, y5, y6, y7, m1, rfl, rfl, rfl, hy4, hy5, hy6, hy7⟩ := open_agg4 Tryz.underlying23 (by kernel_rfl) cellsV (hval 1 23 v1 rfl rfl) h1
  obtain ⟨x4, e4, rfl, wx4⟩ := DataW.trod_int Tryz.underlying3 hy4
  obtain ⟨x5, e5, rfl, wx5⟩ := DataW.trod_int Tryz.underlying2 hy5
  obtain ⟨x6, e6, rfl, wx6⟩ := DataW.trod_int Tryz.underlying2 hy6
  obtain ⟨x7, e7, rfl, wx7⟩ := DataW.trod_string Tryz.underlying9 hy7
  simp at e4 e5 e6 e7
  subst e4 e5 e6 e7
  clear hA0
  simp only [List.append_nil] at hW'
  refine (reckons_walk x0 x1 x2 x3 x4 x5 x6 x7 (bds wx1).1 (bds wx1).2 (bds wx2).1 (bds wx2).2 (bds wx5).1 (bds wx5).2 (bds wx6).1 (bds wx6).2 W (table hL)).mono fun e W' ⟨he, hg⟩ => ?_
  subst he
  exact ⟨_, rfl, post_new (pa := []) (pv := []) hW' (fun _ _ _ => (trodAll_cons_mk (shut_bool Tryz.underlying4 _) trodAll_mk0)) (fun sp => (trodAll_cons_mk (shut_agg4 (y0 := (.lit (.int .i64 x0), [])) (y1 := (.lit (.int .i64 x1), [])) (y2 := (.lit (.int .i64 x2), [])) (y3 := (.lit (.string x3.data.toList), [])) Tryz.underlying23 (by kernel_rfl) cellsV ⟨1, by simp [DataW.trod, Tryz.underlying3, wx0]⟩ ⟨1, by simp [DataW.trod, Tryz.underlying2, wx1]⟩ ⟨1, by simp [DataW.trod, Tryz.underlying2, wx2]⟩ ⟨1, by simp [DataW.trod, Tryz.underlying9, wx3]⟩) (trodAll_cons_mk (shut_agg4 (y0 := (.lit (.int .i64 x4), [])) (y1 := (.lit (.int .i64 x5), [])) (y2 := (.lit (.int .i64 x6), [])) (y3 := (.lit (.string x7.data.toList), [])) Tryz.underlying23 (by kernel_rfl) cellsV ⟨1, by simp [DataW.trod, Tryz.underlying3, wx4]⟩ ⟨1, by simp [DataW.trod, Tryz.underlying2, wx5]⟩ ⟨1, by simp [DataW.trod, Tryz.underlying2, wx6]⟩ ⟨1, by simp [DataW.trod, Tryz.underlying9, wx7]⟩) trodAll_mk0))) (fun _ => rfl) rfl (hg.frame _)⟩

abbrev synS : ByteArray := { data := #[105, 110, 118, 97, 108, 105, 100, 32, 115, 121, 110, 116, 97, 120] }
abbrev rngS : ByteArray := { data := #[118, 97, 108, 117, 101, 32, 111, 117, 116, 32, 111, 102, 32, 114, 97, 110, 103, 101] }
/-- So many blocks has the settled world. -/
noncomputable def low : Nat := (World.holding Tryz.prog default ⟨#[], #[], []⟩).heap.size
/-- The settled world, the five variables holding what their initialisers lay. -/
noncomputable def laidWorld (os : Os) : World :=
  let w0 := World.holding Tryz.prog os ⟨#[.cells #[.string synS] 159, .cells #[.string rngS] 159], #[], []⟩
  { w0 with heap := ((((w0.heap.modify 3 fun
      | .cells _ t frozen => .cells #[.iface 157 (.pointer (some ⟨low, 0, none⟩))] t frozen
      | o => o).modify 4 fun
      | .cells _ t frozen => .cells #[.iface 157 (.pointer (some ⟨low + 1, 0, none⟩))] t frozen
      | o => o).modify 5 fun
      | .cells _ t frozen => .cells #[.int .u64 1, .int .u64 10, .int .u64 100, .int .u64 1000, .int .u64 10000, .int .u64 100000, .int .u64 1000000, .int .u64 10000000, .int .u64 100000000, .int .u64 1000000000, .int .u64 10000000000, .int .u64 100000000000, .int .u64 1000000000000, .int .u64 10000000000000, .int .u64 100000000000000, .int .u64 1000000000000000, .int .u64 10000000000000000, .int .u64 100000000000000000, .int .u64 1000000000000000000, .int .u64 10000000000000000000] t frozen
      | o => o).modify 6 fun
      | .cells _ t frozen => .cells #[.int .u8 0, .int .u8 1, .int .u8 28, .int .u8 2, .int .u8 29, .int .u8 14, .int .u8 24, .int .u8 3, .int .u8 30, .int .u8 22, .int .u8 20, .int .u8 15, .int .u8 25, .int .u8 17, .int .u8 4, .int .u8 8, .int .u8 31, .int .u8 27, .int .u8 13, .int .u8 23, .int .u8 21, .int .u8 19, .int .u8 16, .int .u8 7, .int .u8 26, .int .u8 12, .int .u8 18, .int .u8 6, .int .u8 11, .int .u8 5, .int .u8 10, .int .u8 9] t frozen
      | o => o).modify 7 fun
      | .cells _ t frozen => .cells #[.int .u8 0, .int .u8 1, .int .u8 56, .int .u8 2, .int .u8 57, .int .u8 49, .int .u8 28, .int .u8 3, .int .u8 61, .int .u8 58, .int .u8 42, .int .u8 50, .int .u8 38, .int .u8 29, .int .u8 17, .int .u8 4, .int .u8 62, .int .u8 47, .int .u8 59, .int .u8 36, .int .u8 45, .int .u8 43, .int .u8 51, .int .u8 22, .int .u8 53, .int .u8 39, .int .u8 33, .int .u8 30, .int .u8 24, .int .u8 18, .int .u8 12, .int .u8 5, .int .u8 63, .int .u8 55, .int .u8 48, .int .u8 27, .int .u8 60, .int .u8 41, .int .u8 37, .int .u8 16, .int .u8 46, .int .u8 35, .int .u8 44, .int .u8 21, .int .u8 52, .int .u8 32, .int .u8 23, .int .u8 11, .int .u8 54, .int .u8 26, .int .u8 40, .int .u8 15, .int .u8 34, .int .u8 20, .int .u8 31, .int .u8 10, .int .u8 25, .int .u8 14, .int .u8 19, .int .u8 9, .int .u8 13, .int .u8 8, .int .u8 7, .int .u8 6] t frozen
      | o => o }
theorem laid_met (os : Os) : laidMet Tryz.prog Rows.valueReckonsRow.laid ((laidWorld os).forCall (fun _ _ => 0) ⟨#[], #[.agg #[.int .i64 0, .int .i64 0, .int .i64 0, .string ⟨#[]⟩], .agg #[.int .i64 0, .int .i64 0, .int .i64 0, .string ⟨#[]⟩]], []⟩).memory :=
  laidMet_of_run' 80 (by kernel_rfl) (by kernel_rfl)
theorem reads (os : Os) {H : Type} (enc : TypeId × Value → H) : ∃ places, DataW.whole enc Tryz.prog ((laidWorld os).forCall (fun _ _ => 0) ⟨#[], #[.agg #[.int .i64 0, .int .i64 0, .int .i64 0, .string ⟨#[]⟩], .agg #[.int .i64 0, .int .i64 0, .int .i64 0, .string ⟨#[]⟩]], []⟩).memory Tryz.f8.params.toList Rows.valueReckonsSpec.vars false (#[.agg #[.int .i64 0, .int .i64 0, .int .i64 0, .string ⟨#[]⟩], .agg #[.int .i64 0, .int .i64 0, .int .i64 0, .string ⟨#[]⟩]] : Array Value).toList 8 = some ([.agg [.lit (.int .i64 0), .lit (.int .i64 0), .lit (.int .i64 0), .lit (.string [])], .agg [.lit (.int .i64 0), .lit (.int .i64 0), .lit (.int .i64 0), .lit (.string [])]], [], places) :=
  ⟨[], by kernel_rfl⟩

theorem lifted (os : Os) (started : os.Started) (H : Type) (enc : TypeId × Value → H) (F : Stop.Interp) :
    ReturnsInHanded {} Tryz.checked os 8 .any ((OpenSpec.ofChange Rows.valueReckonsSpec).preRow enc Tryz.prog Tryz.f8 Rows.valueReckonsRow.domain false Rows.valueReckonsRow.laid) (((OpenSpec.ofChange Rows.valueReckonsSpec).at F).post enc Tryz.prog Tryz.f8 false true false false) := by
  obtain ⟨places, hx⟩ := reads os enc
  refine returnsInHanded_of_row (C := Tryz.checked) (s := OpenSpec.ofChange Rows.valueReckonsSpec) own started (by kernel_rfl) Tryz.func8
    (witness_row_at (enc := enc) (C := Tryz.checked) false (laidWorld os) #[.agg #[.int .i64 0, .int .i64 0, .int .i64 0, .string ⟨#[]⟩], .agg #[.int .i64 0, .int .i64 0, .int .i64 0, .string ⟨#[]⟩]] rfl (by kernel_rfl) (by kernel_rfl) (by kernel_rfl)
      (OpenSpec.preRow_of_cond 8 hx (by kernel_rfl) (fun k hk => by cases hk) (by kernel_rfl) (laid_met os))) ?_
  intro W base args ds gs before hval hW _ _ _ hL _ _
  exact contract H enc W base args ds gs before hval hW hL

theorem said : Rows.ValueReckonsSaid :=
  OpenClaim.holds_of_cond 8 Tryz.f8 rfl rfl rfl rfl rfl rfl rfl ⟨rfl, rfl, rfl, rfl, rfl⟩ rfl rfl rfl rfl rfl (by kernel_rfl) Tryz.func8 (by kernel_rfl)
    (of_decide_eq_true (by kernel_rfl)) (by unfold Func.isWrapper; first | (rw [if_pos (by decide +kernel)]; kernel_rfl) | (rw [if_neg (by decide +kernel)]; exact ⟨rfl, rfl⟩))
    (fun os started H enc _ F => by rw [OpenClaim.pre_eq_preRow]; exact lifted os started H enc F)

theorem plain (f : FuncId) (fn : Func) (hf : Tryz.pinned.checked.prog.funcNamed "custos/custoslaw02.ValueReckons" = some f) (hfn : Tryz.pinned.checked.prog.funcs[f]? = some fn) :
    true = Tryz.pinned.checked.prog.looks [] ∧ ∀ (j : Nat) t, fn.params[j]? = some t → Tryz.pinned.checked.prog.wantsStandIn t = false := by
  obtain rfl : f = 8 := Option.some.inj ((show Tryz.prog.funcNamed "custos/custoslaw02.ValueReckons" = some 8 by kernel_rfl).symm.trans hf) |>.symm
  obtain rfl : fn = Tryz.f8 := (Option.some.inj (Tryz.func8.symm.trans hfn)).symm
  refine ⟨by kernel_rfl, fun j t ht => ?_⟩
  rw [Tryz.params8] at ht
  have hm := Array.mem_of_getElem? ht
  simp at hm
  subst hm
  exact (by kernel_rfl : Tryz.pinned.checked.prog.wantsStandIn 23 = false)

/-- THE CARD. -/
theorem card : Rows.ValueReckonsCardSaid :=
  Claim7.holds_tied_plain_at .later [] _ _ _ _ said (fun _ h => by cases h) (by kernel_rfl) (fun _ h => by cases h) valueReckons_row_tie rfl ⟨rfl, rfl⟩ (by kernel_rfl) rfl plain (by kernel_rfl)

end Go.Proofs.YtedoahibceeklaaGreatDoor.valueReckons
namespace Go.Proofs.YtedoahibceeklaaGreatDoor
theorem valueReckons_holds : Rows.ValueReckonsCardSaid := valueReckons.card
#print axioms valueReckons_holds
end Go.Proofs.YtedoahibceeklaaGreatDoor
