/- Parse at one text, on. -/
import Derived.Test.YtedoahibceeklabGreatDoorVParse
namespace Go.Proofs.YtedoahibceeklabGreatDoor
open Go.RowKit Go.Shelf

theorem pure_A0 : pureB 3 0 0 ⟨#[65, 0]⟩ = true := by decide +kernel
theorem chk_A0 : chk 3 0 0 ⟨#[65, 0]⟩ = 0 := by decide +kernel
theorem quo_A0 : (vtext 3 0 0 ⟨#[65, 0]⟩).toArray = #[34, 65, 92, 120, 48, 48, 34] := by decide +kernel

set_option maxRecDepth 100000 in
set_option maxHeartbeats 2000000 in
theorem parse_Ax00 (w : World) (ht : Pow w) :
    Calls Tryz.prog 16 #[.string ⟨#[34, 65, 92, 120, 48, 48, 34]⟩] w fun e w' => e = .returned (.tuple #[.agg #[.int .i64 3, .int .i64 0, .int .i64 0, .string ⟨#[65, 0]⟩], .int .i64 0]) ∧ Below w.heap.size w w' := by
  go_enter Tryz.func16, Tryz.ntmps16
  go_wp2_with fail
  refine (guess_Ax00 _).mono ?_
  rintro e w1 ⟨rfl, hb1⟩
  have R1 : Hid (BlkV w1 w.heap.size 0 0 0 ⟨#[]⟩) := BlkV.below (by constructor <;> simp (maxDischargeDepth := 12) [go_sem]) hb1 (by simp)
  have B1 : Below w.heap.size w w1 := ((Below.refl _ w).alloc (Nat.le_refl _) _).trans (hb1.mono (by simp))
  have z1 : w.heap.size < w1.heap.size := by have := hb1.size; simp at this; omega
  clear hb1
  go_wp2_with fail
  refine (pure_any 3 0 0 ⟨#[65, 0]⟩ _ (by decide) (by decide) (by decide) (by decide)).mono ?_
  rintro e w2 ⟨rfl, hb2⟩
  rw [pure_A0]
  have R2 : Hid (BlkV w2 w.heap.size 0 0 0 ⟨#[]⟩) := (R1.out.below ((Below.refl w1.heap.size w1).alloc (Nat.le_refl _) _) z1).below hb2 (by simp; omega)
  have V2 : Hid (BlkV w2 w1.heap.size 3 0 0 ⟨#[65, 0]⟩) := BlkV.below (by constructor <;> simp (maxDischargeDepth := 12) [go_sem]) hb2 (by simp)
  have B2 : Below w.heap.size w w2 := (B1.alloc (by omega) _).trans (hb2.mono (by simp; omega))
  have z2 : w1.heap.size < w2.heap.size := by have := hb2.size; simp at this; omega
  clear R1 B1 hb2
  obtain ⟨v0, v1, v2, v3, -, -, -, -⟩ := V2.out
  go_wp2_with fail
  refine (text_any 3 0 0 ⟨#[65, 0]⟩ _ (by decide) (by decide) (by decide) (by decide) (by decide) (ht.below B2)).mono ?_
  rintro e w3 ⟨rfl, hb3⟩
  rw [quo_A0]
  clear v0 v1 v2 v3
  have R3 : Hid (BlkV w3 w.heap.size 0 0 0 ⟨#[]⟩) := R2.out.below hb3 (by omega)
  have V3 : Hid (BlkV w3 w1.heap.size 3 0 0 ⟨#[65, 0]⟩) := V2.out.below hb3 z2
  have B3 : Below w.heap.size w w3 := B2.trans (hb3.mono B2.size)
  have z3 : w1.heap.size < w3.heap.size := by have := hb3.size; omega
  clear R2 V2 B2 hb3
  obtain ⟨v0, v1, v2, v3, -, -, -, -⟩ := V3.out
  go_wp2_with fail
  refine (check_any 3 0 0 ⟨#[65, 0]⟩ _ (by decide) (by decide) (by decide) (by decide)).mono ?_
  rintro e w4 ⟨rfl, hb4⟩
  rw [chk_A0]
  clear v0 v1 v2 v3
  have R4 : Hid (BlkV w4 w.heap.size 0 0 0 ⟨#[]⟩) := R3.out.below hb4 (by omega)
  have V4 : Hid (BlkV w4 w1.heap.size 3 0 0 ⟨#[65, 0]⟩) := V3.out.below hb4 z3
  have B4 : Below w.heap.size w w4 := B3.trans (hb4.mono B3.size)
  clear R3 V3 B3 hb4
  obtain ⟨v0, v1, v2, v3, -, -, -, -⟩ := V4.out
  obtain ⟨r0, r1, r2, r3, r4, r5, r6, r7⟩ := R4.out
  go_wp2
  generalize hW9 : World.setCell _ _ _ = W9
  have b9 : BlkV W9 w.heap.size 3 0 0 ⟨#[65, 0]⟩ := by rw [← hW9]; exact R4.out.four
  have hB9 : Below w.heap.size w W9 := by rw [← hW9]; exact (((B4.setCell (by simp) _).setCell (by simp) _).setCell (by simp) _).setCell (by simp) _
  clear hW9
  obtain ⟨x0, x1, x2, x3, -, -, -, -⟩ := b9
  refine bodyPost_ret (by simp [results, Tryz.results16, go_sem, x0, x1, x2, x3]; try rfl) rfl ?_
  exact ⟨rfl, hB9⟩

end Go.Proofs.YtedoahibceeklabGreatDoor
