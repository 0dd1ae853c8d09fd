/- What value and the document reckon is the same. -/
import Derived.Test.YtedoahibceeklaaGreatDoorVAdd
import Derived.Test.YtedoahibceeklaaGreatDoorVCmp
import Derived.Test.YtedoahibceeklaaGreatDoorVReck02
import Derived.Test.YtedoahibceeklaaGreatDoorVReck11
import Derived.Test.YtedoahibceeklaaGreatDoorVReck12
import Derived.Test.YtedoahibceeklaaGreatDoorVReck21
import Derived.Test.YtedoahibceeklaaGreatDoorVReck22
import Derived.Test.YtedoahibceeklaaGreatDoorVDocReck11
import Derived.Test.YtedoahibceeklaaGreatDoorVDocReck12
import Derived.Test.YtedoahibceeklaaGreatDoorVDocReck21
import Derived.Test.YtedoahibceeklaaGreatDoorVDocReck22
import Derived.Test.YtedoahibceeklaaGreatDoorVDocReck31
import Derived.Test.YtedoahibceeklaaGreatDoorVDocReck32
import Derived.Test.YtedoahibceeklaaGreatDoorDocSum
import Derived.Test.YtedoahibceeklaaGreatDoorDocMul
namespace Go.Proofs.YtedoahibceeklaaGreatDoor
open Go.RowKit Go.Shelf

set_option maxRecDepth 100000 in
set_option maxHeartbeats 1000000 in
/-- Sub tells what reckon tells. -/
theorem vsub (k n d : Int) (s : ByteArray) (k' n' d' : Int) (s' : ByteArray) (K N D : Int) (S : ByteArray) (E : Int) (w : World)
    (H : Hid (∀ W : World, Calls Tryz.prog 25 #[.int .i64 1, .agg #[.int .i64 k, .int .i64 n, .int .i64 d, .string s], .agg #[.int .i64 k', .int .i64 n', .int .i64 d', .string s']] W fun e w' => e = .returned (.tuple #[.agg #[.int .i64 K, .int .i64 N, .int .i64 D, .string S], .int .i64 E]) ∧ Below W.heap.size W w')) :
    Calls Tryz.prog 23 #[.agg #[.int .i64 k, .int .i64 n, .int .i64 d, .string s], .agg #[.int .i64 k', .int .i64 n', .int .i64 d', .string s']] w fun e w' => e = .returned (.tuple #[.agg #[.int .i64 K, .int .i64 N, .int .i64 D, .string S], .int .i64 E]) ∧ Below w.heap.size w w' := by
  go_enter Tryz.func23, Tryz.ntmps23
  go_upto_region 1 with fail
  refine wp_world ?_
  intro W0 hW0
  have A0 : BlkV W0 w.heap.size k n d s := by rw [hW0]; constructor <;> simp (maxDischargeDepth := 12) [go_sem]
  have B0 : BlkV W0 (w.heap.size + 1) k' n' d' s' := by rw [hW0]; constructor <;> simp (maxDischargeDepth := 12) [go_sem]
  have R0 : Hid (BlkV W0 (w.heap.size + 1 + 1) 0 0 0 ⟨#[]⟩) := by rw [hW0]; constructor <;> simp (maxDischargeDepth := 12) [go_sem]
  have z0 : w.heap.size + 1 + 1 < W0.heap.size := by rw [hW0]; simp
  have K0 : Below w.heap.size w W0 := by rw [hW0]; go_grown
  clear hW0
  obtain ⟨a0, a1, a2, a3, -, -, -, -⟩ := A0
  obtain ⟨b0, b1, b2, b3, -, -, -, -⟩ := B0
  go_wp2_with fail
  refine (H.out _).mono ?_
  rintro e w1 ⟨rfl, hb1⟩
  clear a0 a1 a2 a3 b0 b1 b2 b3
  have R1 : Hid (BlkV w1 (w.heap.size + 1 + 1) 0 0 0 ⟨#[]⟩) := R0.out.below hb1 z0
  have K1 : Below w.heap.size w w1 := K0.trans (hb1.mono K0.size)
  clear R0 z0 K0 hb1
  obtain ⟨r0, r1, r2, r3, r4, r5, r6, r7⟩ := R1.out
  go_wp2
  generalize hW9 : World.setCell _ _ _ = W9
  have b9 : BlkV W9 (w.heap.size + 1 + 1) K N D S := by rw [← hW9]; exact R1.out.four
  have hB9 : Below w.heap.size w W9 := by rw [← hW9]; exact (((K1.setCell (by simp; omega) _).setCell (by simp; omega) _).setCell (by simp; omega) _).setCell (by simp; omega) _
  clear hW9
  obtain ⟨x0, x1, x2, x3, -, -, -, -⟩ := b9
  refine bodyPost_ret (by simp [results, Tryz.results23, go_sem, x0, x1, x2, x3]; try rfl) rfl ?_
  exact ⟨rfl, hB9⟩

set_option maxRecDepth 100000 in
set_option maxHeartbeats 1000000 in
/-- Mul tells what reckon tells. -/
theorem vmul (k n d : Int) (s : ByteArray) (k' n' d' : Int) (s' : ByteArray) (K N D : Int) (S : ByteArray) (E : Int) (w : World)
    (H : Hid (∀ W : World, Calls Tryz.prog 25 #[.int .i64 2, .agg #[.int .i64 k, .int .i64 n, .int .i64 d, .string s], .agg #[.int .i64 k', .int .i64 n', .int .i64 d', .string s']] W fun e w' => e = .returned (.tuple #[.agg #[.int .i64 K, .int .i64 N, .int .i64 D, .string S], .int .i64 E]) ∧ Below W.heap.size W w')) :
    Calls Tryz.prog 24 #[.agg #[.int .i64 k, .int .i64 n, .int .i64 d, .string s], .agg #[.int .i64 k', .int .i64 n', .int .i64 d', .string s']] w fun e w' => e = .returned (.tuple #[.agg #[.int .i64 K, .int .i64 N, .int .i64 D, .string S], .int .i64 E]) ∧ Below w.heap.size w w' := by
  go_enter Tryz.func24, Tryz.ntmps24
  go_upto_region 1 with fail
  refine wp_world ?_
  intro W0 hW0
  have A0 : BlkV W0 w.heap.size k n d s := by rw [hW0]; constructor <;> simp (maxDischargeDepth := 12) [go_sem]
  have B0 : BlkV W0 (w.heap.size + 1) k' n' d' s' := by rw [hW0]; constructor <;> simp (maxDischargeDepth := 12) [go_sem]
  have R0 : Hid (BlkV W0 (w.heap.size + 1 + 1) 0 0 0 ⟨#[]⟩) := by rw [hW0]; constructor <;> simp (maxDischargeDepth := 12) [go_sem]
  have z0 : w.heap.size + 1 + 1 < W0.heap.size := by rw [hW0]; simp
  have K0 : Below w.heap.size w W0 := by rw [hW0]; go_grown
  clear hW0
  obtain ⟨a0, a1, a2, a3, -, -, -, -⟩ := A0
  obtain ⟨b0, b1, b2, b3, -, -, -, -⟩ := B0
  go_wp2_with fail
  refine (H.out _).mono ?_
  rintro e w1 ⟨rfl, hb1⟩
  clear a0 a1 a2 a3 b0 b1 b2 b3
  have R1 : Hid (BlkV w1 (w.heap.size + 1 + 1) 0 0 0 ⟨#[]⟩) := R0.out.below hb1 z0
  have K1 : Below w.heap.size w w1 := K0.trans (hb1.mono K0.size)
  clear R0 z0 K0 hb1
  obtain ⟨r0, r1, r2, r3, r4, r5, r6, r7⟩ := R1.out
  go_wp2
  generalize hW9 : World.setCell _ _ _ = W9
  have b9 : BlkV W9 (w.heap.size + 1 + 1) K N D S := by rw [← hW9]; exact R1.out.four
  have hB9 : Below w.heap.size w W9 := by rw [← hW9]; exact (((K1.setCell (by simp; omega) _).setCell (by simp; omega) _).setCell (by simp; omega) _).setCell (by simp; omega) _
  clear hW9
  obtain ⟨x0, x1, x2, x3, -, -, -, -⟩ := b9
  refine bodyPost_ret (by simp [results, Tryz.results24, go_sem, x0, x1, x2, x3]; try rfl) rfl ?_
  exact ⟨rfl, hB9⟩

theorem agree_Add (k n d : Int) (s : ByteArray) (k' n' d' : Int) (s' : ByteArray) (h1 : -9223372036854775808 ≤ n) (h2 : n ≤ 9223372036854775807) (g1 : -9223372036854775808 ≤ d) (g2 : d ≤ 9223372036854775807) (h1' : -9223372036854775808 ≤ n') (h2' : n' ≤ 9223372036854775807) (g1' : -9223372036854775808 ≤ d') (g2' : d' ≤ 9223372036854775807) :
    ∃ K N D E : Int, Hid (∀ W : World, Calls Tryz.prog 25 #[.int .i64 0, .agg #[.int .i64 k, .int .i64 n, .int .i64 d, .string s], .agg #[.int .i64 k', .int .i64 n', .int .i64 d', .string s']] W fun e w' => e = .returned (.tuple #[.agg #[.int .i64 K, .int .i64 N, .int .i64 D, .string ⟨#[]⟩], .int .i64 E]) ∧ Below W.heap.size W w') ∧ Hid (∀ W : World, Calls Tryz.prog 22 #[.int .i64 1, .agg #[.int .i64 k, .int .i64 n, .int .i64 d, .string s], .agg #[.int .i64 k', .int .i64 n', .int .i64 d', .string s']] W fun e w' => e = .returned (.tuple #[.agg #[.int .i64 K, .int .i64 N, .int .i64 D, .string ⟨#[]⟩], .int .i64 E]) ∧ Below W.heap.size W w') := by
  by_cases c1 : chk k n d s = 0
  · by_cases c2 : chk k' n' d' s' = 0
    · by_cases hk : k = k'
      · subst hk
        rcases chk_kind c1 with rfl | rfl | rfl
        · exact ⟨_, _, _, _, fun W => rk_Add1 (tN n 1 n' 1 (n * 1 + n' * 1) (1 * 1)) (tD n 1 n' 1 (n * 1 + n' * 1) (1 * 1)) (tE n 1 n' 1 (n * 1 + n' * 1) (1 * 1)) n d s n' d' s' W h1 h2 g1 g2 h1' h2' g1' g2' rfl rfl rfl c1 c2, fun W => drk_Add1 (tN n 1 n' 1 (n * 1 + n' * 1) (1 * 1)) (tD n 1 n' 1 (n * 1 + n' * 1) (1 * 1)) (tE n 1 n' 1 (n * 1 + n' * 1) (1 * 1)) n d s n' d' s' W h1 h2 g1 g2 h1' h2' g1' g2' c1 c2 (fun W2 => radd_all n 1 n' 1 W2 h1 h2 (by omega) (by omega) h1' h2' (by omega) (by omega))⟩
        · exact ⟨_, _, _, _, fun W => rk_Add2 (tN n d n' d' (n * d' + n' * d) (d * d')) (tD n d n' d' (n * d' + n' * d) (d * d')) (tE n d n' d' (n * d' + n' * d) (d * d')) n d s n' d' s' W h1 h2 g1 g2 h1' h2' g1' g2' rfl rfl rfl c1 c2, fun W => drk_Add2 (tN n d n' d' (n * d' + n' * d) (d * d')) (tD n d n' d' (n * d' + n' * d) (d * d')) (tE n d n' d' (n * d' + n' * d) (d * d')) n d s n' d' s' W h1 h2 g1 g2 h1' h2' g1' g2' c1 c2 (fun W2 => radd_all n d n' d' W2 h1 h2 g1 g2 h1' h2' g1' g2')⟩
        · exact ⟨0, 0, 0, 20, fun W => rk_kind2 0 3 n d s 3 n' d' s' W h1 h2 g1 g2 h1' h2' g1' g2' c1 c2 rfl rfl, fun W => drk_kind2 1 3 n d s 3 n' d' s' W h1 h2 g1 g2 h1' h2' g1' g2' c1 c2 rfl rfl⟩
      · exact ⟨0, 0, 0, 20, fun W => rk_kind1 0 k n d s k' n' d' s' W h1 h2 g1 g2 h1' h2' g1' g2' c1 c2 (by simpa using hk), fun W => drk_kind1 1 k n d s k' n' d' s' W h1 h2 g1 g2 h1' h2' g1' g2' c1 c2 (by simpa using hk)⟩
    · exact ⟨0, 0, 0, _, fun W => rk_chk2 0 k n d s k' n' d' s' W h1 h2 g1 g2 h1' h2' g1' g2' c1 (by simpa using c2), fun W => drk_chk2 1 k n d s k' n' d' s' W h1 h2 g1 g2 h1' h2' g1' g2' c1 (by simpa using c2)⟩
  · exact ⟨0, 0, 0, _, fun W => rk_chk1 0 k n d s k' n' d' s' W h1 h2 g1 g2 h1' h2' g1' g2' (by simpa using c1), fun W => drk_chk1 1 k n d s k' n' d' s' W h1 h2 g1 g2 h1' h2' g1' g2' (by simpa using c1)⟩

theorem agree_Sub (k n d : Int) (s : ByteArray) (k' n' d' : Int) (s' : ByteArray) (h1 : -9223372036854775808 ≤ n) (h2 : n ≤ 9223372036854775807) (g1 : -9223372036854775808 ≤ d) (g2 : d ≤ 9223372036854775807) (h1' : -9223372036854775808 ≤ n') (h2' : n' ≤ 9223372036854775807) (g1' : -9223372036854775808 ≤ d') (g2' : d' ≤ 9223372036854775807) :
    ∃ K N D E : Int, Hid (∀ W : World, Calls Tryz.prog 25 #[.int .i64 1, .agg #[.int .i64 k, .int .i64 n, .int .i64 d, .string s], .agg #[.int .i64 k', .int .i64 n', .int .i64 d', .string s']] W fun e w' => e = .returned (.tuple #[.agg #[.int .i64 K, .int .i64 N, .int .i64 D, .string ⟨#[]⟩], .int .i64 E]) ∧ Below W.heap.size W w') ∧ Hid (∀ W : World, Calls Tryz.prog 22 #[.int .i64 2, .agg #[.int .i64 k, .int .i64 n, .int .i64 d, .string s], .agg #[.int .i64 k', .int .i64 n', .int .i64 d', .string s']] W fun e w' => e = .returned (.tuple #[.agg #[.int .i64 K, .int .i64 N, .int .i64 D, .string ⟨#[]⟩], .int .i64 E]) ∧ Below W.heap.size W w') := by
  by_cases c1 : chk k n d s = 0
  · by_cases c2 : chk k' n' d' s' = 0
    · by_cases hk : k = k'
      · subst hk
        rcases chk_kind c1 with rfl | rfl | rfl
        · exact ⟨_, _, _, _, fun W => rk_Sub1 (tN n 1 n' 1 (n * 1 - n' * 1) (1 * 1)) (tD n 1 n' 1 (n * 1 - n' * 1) (1 * 1)) (tE n 1 n' 1 (n * 1 - n' * 1) (1 * 1)) n d s n' d' s' W h1 h2 g1 g2 h1' h2' g1' g2' rfl rfl rfl c1 c2, fun W => drk_Sub1 (tN n 1 n' 1 (n * 1 - n' * 1) (1 * 1)) (tD n 1 n' 1 (n * 1 - n' * 1) (1 * 1)) (tE n 1 n' 1 (n * 1 - n' * 1) (1 * 1)) n d s n' d' s' W h1 h2 g1 g2 h1' h2' g1' g2' c1 c2 (fun W2 => rsub_all n 1 n' 1 W2 h1 h2 (by omega) (by omega) h1' h2' (by omega) (by omega))⟩
        · exact ⟨_, _, _, _, fun W => rk_Sub2 (tN n d n' d' (n * d' - n' * d) (d * d')) (tD n d n' d' (n * d' - n' * d) (d * d')) (tE n d n' d' (n * d' - n' * d) (d * d')) n d s n' d' s' W h1 h2 g1 g2 h1' h2' g1' g2' rfl rfl rfl c1 c2, fun W => drk_Sub2 (tN n d n' d' (n * d' - n' * d) (d * d')) (tD n d n' d' (n * d' - n' * d) (d * d')) (tE n d n' d' (n * d' - n' * d) (d * d')) n d s n' d' s' W h1 h2 g1 g2 h1' h2' g1' g2' c1 c2 (fun W2 => rsub_all n d n' d' W2 h1 h2 g1 g2 h1' h2' g1' g2')⟩
        · exact ⟨0, 0, 0, 20, fun W => rk_kind2 1 3 n d s 3 n' d' s' W h1 h2 g1 g2 h1' h2' g1' g2' c1 c2 rfl rfl, fun W => drk_kind2 2 3 n d s 3 n' d' s' W h1 h2 g1 g2 h1' h2' g1' g2' c1 c2 rfl rfl⟩
      · exact ⟨0, 0, 0, 20, fun W => rk_kind1 1 k n d s k' n' d' s' W h1 h2 g1 g2 h1' h2' g1' g2' c1 c2 (by simpa using hk), fun W => drk_kind1 2 k n d s k' n' d' s' W h1 h2 g1 g2 h1' h2' g1' g2' c1 c2 (by simpa using hk)⟩
    · exact ⟨0, 0, 0, _, fun W => rk_chk2 1 k n d s k' n' d' s' W h1 h2 g1 g2 h1' h2' g1' g2' c1 (by simpa using c2), fun W => drk_chk2 2 k n d s k' n' d' s' W h1 h2 g1 g2 h1' h2' g1' g2' c1 (by simpa using c2)⟩
  · exact ⟨0, 0, 0, _, fun W => rk_chk1 1 k n d s k' n' d' s' W h1 h2 g1 g2 h1' h2' g1' g2' (by simpa using c1), fun W => drk_chk1 2 k n d s k' n' d' s' W h1 h2 g1 g2 h1' h2' g1' g2' (by simpa using c1)⟩

theorem agree_Mul (k n d : Int) (s : ByteArray) (k' n' d' : Int) (s' : ByteArray) (h1 : -9223372036854775808 ≤ n) (h2 : n ≤ 9223372036854775807) (g1 : -9223372036854775808 ≤ d) (g2 : d ≤ 9223372036854775807) (h1' : -9223372036854775808 ≤ n') (h2' : n' ≤ 9223372036854775807) (g1' : -9223372036854775808 ≤ d') (g2' : d' ≤ 9223372036854775807) :
    ∃ K N D E : Int, Hid (∀ W : World, Calls Tryz.prog 25 #[.int .i64 2, .agg #[.int .i64 k, .int .i64 n, .int .i64 d, .string s], .agg #[.int .i64 k', .int .i64 n', .int .i64 d', .string s']] W fun e w' => e = .returned (.tuple #[.agg #[.int .i64 K, .int .i64 N, .int .i64 D, .string ⟨#[]⟩], .int .i64 E]) ∧ Below W.heap.size W w') ∧ Hid (∀ W : World, Calls Tryz.prog 22 #[.int .i64 3, .agg #[.int .i64 k, .int .i64 n, .int .i64 d, .string s], .agg #[.int .i64 k', .int .i64 n', .int .i64 d', .string s']] W fun e w' => e = .returned (.tuple #[.agg #[.int .i64 K, .int .i64 N, .int .i64 D, .string ⟨#[]⟩], .int .i64 E]) ∧ Below W.heap.size W w') := by
  by_cases c1 : chk k n d s = 0
  · by_cases c2 : chk k' n' d' s' = 0
    · by_cases hk : k = k'
      · subst hk
        rcases chk_kind c1 with rfl | rfl | rfl
        · exact ⟨_, _, _, _, fun W => rk_Mul1 (tN n 1 n' 1 (n * n') (1 * 1)) (tD n 1 n' 1 (n * n') (1 * 1)) (tE n 1 n' 1 (n * n') (1 * 1)) n d s n' d' s' W h1 h2 g1 g2 h1' h2' g1' g2' rfl rfl rfl c1 c2, fun W => drk_Mul1 (tN n 1 n' 1 (n * n') (1 * 1)) (tD n 1 n' 1 (n * n') (1 * 1)) (tE n 1 n' 1 (n * n') (1 * 1)) n d s n' d' s' W h1 h2 g1 g2 h1' h2' g1' g2' c1 c2 (fun W2 => rmul_all n 1 n' 1 W2 h1 h2 (by omega) (by omega) h1' h2' (by omega) (by omega))⟩
        · exact ⟨_, _, _, _, fun W => rk_Mul2 (tN n d n' d' (n * n') (d * d')) (tD n d n' d' (n * n') (d * d')) (tE n d n' d' (n * n') (d * d')) n d s n' d' s' W h1 h2 g1 g2 h1' h2' g1' g2' rfl rfl rfl c1 c2, fun W => drk_Mul2 (tN n d n' d' (n * n') (d * d')) (tD n d n' d' (n * n') (d * d')) (tE n d n' d' (n * n') (d * d')) n d s n' d' s' W h1 h2 g1 g2 h1' h2' g1' g2' c1 c2 (fun W2 => rmul_all n d n' d' W2 h1 h2 g1 g2 h1' h2' g1' g2')⟩
        · exact ⟨0, 0, 0, 20, fun W => rk_kind2 2 3 n d s 3 n' d' s' W h1 h2 g1 g2 h1' h2' g1' g2' c1 c2 rfl rfl, fun W => drk_kind2 3 3 n d s 3 n' d' s' W h1 h2 g1 g2 h1' h2' g1' g2' c1 c2 rfl rfl⟩
      · exact ⟨0, 0, 0, 20, fun W => rk_kind1 2 k n d s k' n' d' s' W h1 h2 g1 g2 h1' h2' g1' g2' c1 c2 (by simpa using hk), fun W => drk_kind1 3 k n d s k' n' d' s' W h1 h2 g1 g2 h1' h2' g1' g2' c1 c2 (by simpa using hk)⟩
    · exact ⟨0, 0, 0, _, fun W => rk_chk2 2 k n d s k' n' d' s' W h1 h2 g1 g2 h1' h2' g1' g2' c1 (by simpa using c2), fun W => drk_chk2 3 k n d s k' n' d' s' W h1 h2 g1 g2 h1' h2' g1' g2' c1 (by simpa using c2)⟩
  · exact ⟨0, 0, 0, _, fun W => rk_chk1 2 k n d s k' n' d' s' W h1 h2 g1 g2 h1' h2' g1' g2' (by simpa using c1), fun W => drk_chk1 3 k n d s k' n' d' s' W h1 h2 g1 g2 h1' h2' g1' g2' (by simpa using c1)⟩

end Go.Proofs.YtedoahibceeklaaGreatDoor
