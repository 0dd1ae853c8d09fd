/- Add at some values. -/
import Derived.Test.YtedoahibceeklabGreatDoorVReck2
import Derived.Test.YtedoahibceeklabGreatDoorVComp
namespace Go.Proofs.YtedoahibceeklabGreatDoor
open Go.RowKit Go.Shelf

set_option maxRecDepth 100000 in
set_option maxHeartbeats 1000000 in
/-- Add tells what reckon tells. -/
theorem vadd (k n d : Int) (s : ByteArray) (k' n' d' : Int) (s' : ByteArray) (K N D : Int) (S : ByteArray) (E : Int) (w : World)
    (H : Hid (∀ W : World, Calls Tryz.prog 20 #[.int .i64 0, .agg #[.int .i64 k, .int .i64 n, .int .i64 d, .string s], .agg #[.int .i64 k', .int .i64 n', .int .i64 d', .string s']] W fun e w' => e = .returned (.tuple #[.agg #[.int .i64 K, .int .i64 N, .int .i64 D, .string S], .int .i64 E]) ∧ Below W.heap.size W w')) :
    Calls Tryz.prog 7 #[.agg #[.int .i64 k, .int .i64 n, .int .i64 d, .string s], .agg #[.int .i64 k', .int .i64 n', .int .i64 d', .string s']] w fun e w' => e = .returned (.tuple #[.agg #[.int .i64 K, .int .i64 N, .int .i64 D, .string S], .int .i64 E]) ∧ Below w.heap.size w w' := by
  go_enter Tryz.func7, Tryz.ntmps7
  go_upto_region 1 with fail
  refine wp_world ?_
  intro W0 hW0
  have A0 : BlkV W0 w.heap.size k n d s := by rw [hW0]; constructor <;> simp (maxDischargeDepth := 12) [go_sem]
  have B0 : BlkV W0 (w.heap.size + 1) k' n' d' s' := by rw [hW0]; constructor <;> simp (maxDischargeDepth := 12) [go_sem]
  have R0 : Hid (BlkV W0 (w.heap.size + 1 + 1) 0 0 0 ⟨#[]⟩) := by rw [hW0]; constructor <;> simp (maxDischargeDepth := 12) [go_sem]
  have z0 : w.heap.size + 1 + 1 < W0.heap.size := by rw [hW0]; simp
  have K0 : Below w.heap.size w W0 := by rw [hW0]; go_grown
  clear hW0
  obtain ⟨a0, a1, a2, a3, -, -, -, -⟩ := A0
  obtain ⟨b0, b1, b2, b3, -, -, -, -⟩ := B0
  go_wp2_with fail
  refine (H.out _).mono ?_
  rintro e w1 ⟨rfl, hb1⟩
  clear a0 a1 a2 a3 b0 b1 b2 b3
  have R1 : Hid (BlkV w1 (w.heap.size + 1 + 1) 0 0 0 ⟨#[]⟩) := R0.out.below hb1 z0
  have K1 : Below w.heap.size w w1 := K0.trans (hb1.mono K0.size)
  clear R0 z0 K0 hb1
  obtain ⟨r0, r1, r2, r3, r4, r5, r6, r7⟩ := R1.out
  go_wp2
  generalize hW9 : World.setCell _ _ _ = W9
  have b9 : BlkV W9 (w.heap.size + 1 + 1) K N D S := by rw [← hW9]; exact R1.out.four
  have hB9 : Below w.heap.size w W9 := by rw [← hW9]; exact (((K1.setCell (by simp; omega) _).setCell (by simp; omega) _).setCell (by simp; omega) _).setCell (by simp; omega) _
  clear hW9
  obtain ⟨x0, x1, x2, x3, -, -, -, -⟩ := b9
  refine bodyPost_ret (by simp [results, Tryz.results7, go_sem, x0, x1, x2, x3]; try rfl) rfl ?_
  exact ⟨rfl, hB9⟩

theorem add_23 (w : World) : Calls Tryz.prog 7 #[.agg #[.int .i64 1, .int .i64 2, .int .i64 0, .string ⟨#[]⟩], .agg #[.int .i64 1, .int .i64 3, .int .i64 0, .string ⟨#[]⟩]] w fun e w' => e = .returned (.tuple #[.agg #[.int .i64 1, .int .i64 5, .int .i64 0, .string ⟨#[]⟩], .int .i64 0]) ∧ Below w.heap.size w w' :=
  vadd _ _ _ _ _ _ _ _ _ _ _ _ _ w fun W => rk_Add1 5 1 0 2 0 ⟨#[]⟩ 3 0 ⟨#[]⟩ W (by decide) (by decide) (by decide) (by decide) (by decide) (by decide) (by decide) (by decide)
    (show tN 2 1 3 1 (2 * 1 + 3 * 1) (1 * 1) = 5 by decide +kernel) (show tD 2 1 3 1 (2 * 1 + 3 * 1) (1 * 1) = 1 by decide +kernel) (show tE 2 1 3 1 (2 * 1 + 3 * 1) (1 * 1) = 0 by decide +kernel) (by decide +kernel) (by decide +kernel)

theorem add_over (w : World) : Calls Tryz.prog 7 #[.agg #[.int .i64 1, .int .i64 9223372036854775807, .int .i64 0, .string ⟨#[]⟩], .agg #[.int .i64 1, .int .i64 1, .int .i64 0, .string ⟨#[]⟩]] w fun e w' => e = .returned (.tuple #[.agg #[.int .i64 0, .int .i64 0, .int .i64 0, .string ⟨#[]⟩], .int .i64 10]) ∧ Below w.heap.size w w' :=
  vadd _ _ _ _ _ _ _ _ _ _ _ _ _ w fun W => rk_Add1 0 0 10 9223372036854775807 0 ⟨#[]⟩ 1 0 ⟨#[]⟩ W (by decide) (by decide) (by decide) (by decide) (by decide) (by decide) (by decide) (by decide)
    (show tN 9223372036854775807 1 1 1 (9223372036854775807 * 1 + 1 * 1) (1 * 1) = 0 by decide +kernel) (show tD 9223372036854775807 1 1 1 (9223372036854775807 * 1 + 1 * 1) (1 * 1) = 0 by decide +kernel) (show tE 9223372036854775807 1 1 1 (9223372036854775807 * 1 + 1 * 1) (1 * 1) = 10 by decide +kernel) (by decide +kernel) (by decide +kernel)

theorem add_kind (w : World) : Calls Tryz.prog 7 #[.agg #[.int .i64 1, .int .i64 1, .int .i64 0, .string ⟨#[]⟩], .agg #[.int .i64 2, .int .i64 1, .int .i64 1, .string ⟨#[]⟩]] w fun e w' => e = .returned (.tuple #[.agg #[.int .i64 0, .int .i64 0, .int .i64 0, .string ⟨#[]⟩], .int .i64 20]) ∧ Below w.heap.size w w' :=
  vadd _ _ _ _ _ _ _ _ _ _ _ _ _ w fun W => rk_kind1 0 1 1 0 ⟨#[]⟩ 2 1 1 ⟨#[]⟩ W (by decide) (by decide) (by decide) (by decide) (by decide) (by decide) (by decide) (by decide) (by decide +kernel) (by decide +kernel) (by decide)

theorem cmp_52 (w : World) : Calls Tryz.prog 12 #[.agg #[.int .i64 1, .int .i64 5, .int .i64 0, .string ⟨#[]⟩], .agg #[.int .i64 2, .int .i64 1, .int .i64 2, .string ⟨#[]⟩]] w fun e w' => e = .returned (.int .i64 (-1)) ∧ Below w.heap.size w w' :=
  cmp_unlike 1 5 0 ⟨#[]⟩ 2 1 2 ⟨#[]⟩ w (by decide) (by decide) (by decide) (by decide) (by decide) (by decide) (by decide) (by decide) (by decide +kernel) (by decide +kernel) (by decide)

theorem print_31 (w : World) (ht : Pow w) : Calls Tryz.prog 14 #[.agg #[.int .i64 2, .int .i64 (-3), .int .i64 1, .string ⟨#[]⟩]] w fun e w' => e = .returned (.tuple #[.string ⟨#[45, 51, 47, 49]⟩, .int .i64 0]) ∧ Below w.heap.size w w' := by
  have h := print_any 2 (-3) 1 ⟨#[]⟩ w (by decide) (by decide) (by decide) (by decide) ht
  have e1 : chk 2 (-3) 1 ⟨#[]⟩ = 0 := by decide +kernel
  have e2 : (vtext 2 (-3) 1 ⟨#[]⟩).toArray = #[45, 51, 47, 49] := by decide +kernel
  rw [if_pos e1, e1, e2] at h
  exact h

theorem check_24 (w : World) : Calls Tryz.prog 19 #[.agg #[.int .i64 2, .int .i64 2, .int .i64 4, .string ⟨#[]⟩]] w fun e w' => e = .returned (.int .i64 20) ∧ Below w.heap.size w w' := by
  have h := check_any 2 2 4 ⟨#[]⟩ w (by decide) (by decide) (by decide) (by decide)
  rwa [show chk 2 2 4 ⟨#[]⟩ = 20 by decide +kernel] at h
theorem check_01 (w : World) : Calls Tryz.prog 19 #[.agg #[.int .i64 2, .int .i64 0, .int .i64 1, .string ⟨#[]⟩]] w fun e w' => e = .returned (.int .i64 0) ∧ Below w.heap.size w w' := by
  have h := check_any 2 0 1 ⟨#[]⟩ w (by decide) (by decide) (by decide) (by decide)
  rwa [show chk 2 0 1 ⟨#[]⟩ = 0 by decide +kernel] at h

end Go.Proofs.YtedoahibceeklabGreatDoor
