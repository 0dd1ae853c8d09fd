/- What the laws' own 'live' tells. -/
import Derived.Test.YtedoahibceeklabGreatDoorVAdd
namespace Go.Proofs.YtedoahibceeklabGreatDoor
open Go.RowKit Go.Shelf

set_option maxRecDepth 100000 in
set_option maxHeartbeats 4000000 in
theorem live_any (w : World) (ht : Pow w) : Calls Tryz.prog 13 #[] w fun e w' => e = .returned (.bool true) ∧ Below w.heap.size w w' := by
  go_enter Tryz.func13, Tryz.ntmps13
  go_wp2_with fail
  refine (whole_any 2 _).mono ?_
  rintro e w1 ⟨rfl, hb1⟩
  go_wp2_with fail
  refine (whole_any 3 _).mono ?_
  rintro e w2 ⟨rfl, hb2⟩
  have K2 : Below w.heap.size w w2 := hb1.trans (hb2.mono hb1.size)
  clear hb1 hb2
  go_wp2_with fail
  refine (add_23 _).mono ?_
  rintro e w3 ⟨rfl, hb3⟩
  have K3 : Below w.heap.size w w3 := K2.trans (hb3.mono K2.size)
  clear hb3 K2
  go_upto_region 2 with fail
  refine wp_world ?_
  intro W1 hW1
  have A1 : Hid (BlkV W1 w3.heap.size 1 5 0 ⟨#[]⟩) := by rw [hW1]; constructor <;> simp (maxDischargeDepth := 12) [go_sem]
  have z1 : w3.heap.size < W1.heap.size := by rw [hW1]; simp
  have L1 : Below w.heap.size w W1 := by rw [hW1]; exact K3.alloc K3.size _
  clear hW1 K3
  go_wp2_with fail
  refine (whole_any 1 _).mono ?_
  rintro e w4 ⟨rfl, hb4⟩
  go_wp2_with fail
  refine (part_any 1 1 _).mono ?_
  rintro e w5 ⟨rfl, hb5⟩
  go_wp2_with fail
  refine (add_kind _).mono ?_
  rintro e w6 ⟨rfl, hb6⟩
  have M6 : Below W1.heap.size W1 w6 := (hb4.trans (hb5.mono hb4.size)).trans (hb6.mono (Nat.le_trans hb4.size hb5.size))
  clear hb4 hb5 hb6
  go_upto_region 3 with fail
  refine wp_world ?_
  intro W2 hW2
  have N2 : Below W1.heap.size W1 W2 := by rw [hW2]; exact M6.alloc M6.size _
  have A2 : Hid (BlkV W2 w3.heap.size 1 5 0 ⟨#[]⟩) := A1.out.below N2 z1
  have z2 : w3.heap.size < W2.heap.size := Nat.lt_of_lt_of_le z1 N2.size
  have L2 : Below w.heap.size w W2 := L1.trans (N2.mono L1.size)
  clear hW2 M6 N2 A1 z1 L1
  go_wp2_with fail
  refine (part_any (-3) 1 _).mono ?_
  rintro e w7 ⟨rfl, hb7⟩
  have P7 : Pow w7 := ht.below (L2.trans (hb7.mono L2.size))
  go_wp2_with fail
  refine (print_31 _ P7).mono ?_
  rintro e w8 ⟨rfl, hb8⟩
  have M8 : Below W2.heap.size W2 w8 := hb7.trans (hb8.mono hb7.size)
  have L8 : Below w.heap.size w w8 := L2.trans (M8.mono L2.size)
  have P8 : Pow w8 := ht.below L8
  have A8 : Hid (BlkV w8 w3.heap.size 1 5 0 ⟨#[]⟩) := A2.out.below M8 z2
  have z8 : w3.heap.size < w8.heap.size := Nat.lt_of_lt_of_le z2 M8.size
  clear hb7 hb8 P7 M8 L2 A2 z2
  go_wp2_with fail
  refine (parse_Ax00 _ P8).mono ?_
  rintro e w9 ⟨rfl, hb9⟩
  have A9 : Hid (BlkV w9 w3.heap.size 1 5 0 ⟨#[]⟩) := A8.out.below hb9 z8
  have z9 : w3.heap.size < w9.heap.size := Nat.lt_of_lt_of_le z8 hb9.size
  have L9 : Below w.heap.size w w9 := L8.trans (hb9.mono L8.size)
  clear hb9 A8 z8 L8 P8
  go_upto_region 5 with fail
  refine wp_world ?_
  intro W3 hW3
  have A3 : Hid (BlkV W3 w3.heap.size 1 5 0 ⟨#[]⟩) := by rw [hW3]; exact A9.out.below ((Below.refl w9.heap.size w9).alloc (Nat.le_refl _) _) z9
  have B3 : Hid (BlkV W3 w9.heap.size 3 0 0 ⟨#[65, 0]⟩) := by rw [hW3]; constructor <;> simp (maxDischargeDepth := 12) [go_sem]
  have y3 : w9.heap.size < W3.heap.size := by rw [hW3]; simp
  have z3 : w3.heap.size < W3.heap.size := by omega
  have L3 : Below w.heap.size w W3 := by rw [hW3]; exact L9.alloc L9.size _
  clear hW3 A9 z9 L9
  go_wp2_with fail
  refine (whole_any 5 _).mono ?_
  rintro e u1 ⟨rfl, hb1⟩
  go_wp2_with fail
  refine (part_any 1 2 _).mono ?_
  rintro e u2 ⟨rfl, hb2⟩
  go_wp2_with fail
  refine (cmp_52 _).mono ?_
  rintro e u3 ⟨rfl, hb3⟩
  have M3 : Below W3.heap.size W3 u3 := (hb1.trans (hb2.mono hb1.size)).trans (hb3.mono (Nat.le_trans hb1.size hb2.size))
  clear hb1 hb2 hb3
  go_wp2_with fail
  refine (whole_any 1 _).mono ?_
  rintro e u4 ⟨rfl, hb4⟩
  have M4 : Below W3.heap.size W3 u4 := M3.trans (hb4.mono M3.size)
  clear hb4 M3
  go_wp2_with fail
  refine (row_one _ _ _).mono ?_
  rintro e u5 ⟨rfl, rfl⟩
  go_upto_region 6 with fail
  refine wp_world ?_
  intro W4 hW4
  have N4 : Below W3.heap.size W3 W4 := by rw [hW4]; exact M4.alloc M4.size _
  have A4 : BlkV W4 w3.heap.size 1 5 0 ⟨#[]⟩ := A3.out.below N4 z3
  have B4 : BlkV W4 w9.heap.size 3 0 0 ⟨#[65, 0]⟩ := B3.out.below N4 y3
  have y4 : w9.heap.size < W4.heap.size := Nat.lt_of_lt_of_le y3 N4.size
  have z4 : w3.heap.size < W4.heap.size := Nat.lt_of_lt_of_le z3 N4.size
  have L4 : Below w.heap.size w W4 := L3.trans (N4.mono L3.size)
  clear hW4 M4 N4 A3 B3 y3 z3 L3
  obtain ⟨a0, a1, a2, a3, -, -, -, -⟩ := A4
  obtain ⟨b0, b1, b2, b3, -, -, -, -⟩ := B4
  go_region_held3 (fun w' => w'.cell? ⟨w3.heap.size, 0, none⟩ = some (.int .i64 1) ∧ w'.cell? ⟨w3.heap.size, 1, none⟩ = some (.int .i64 5) ∧ w'.cell? ⟨w3.heap.size, 2, none⟩ = some (.int .i64 0) ∧ w'.cell? ⟨w3.heap.size, 3, none⟩ = some (.string ⟨#[]⟩) ∧ w'.cell? ⟨w9.heap.size, 0, none⟩ = some (.int .i64 3) ∧ w'.cell? ⟨w9.heap.size, 1, none⟩ = some (.int .i64 0) ∧ w'.cell? ⟨w9.heap.size, 2, none⟩ = some (.int .i64 0) ∧ w'.cell? ⟨w9.heap.size, 3, none⟩ = some (.string ⟨#[65, 0]⟩)) (exact keep8 (show Below W4.heap.size W4 _ from (by go_grown)) a0 a1 a2 a3 b0 b1 b2 b3 z4 y4)
    (first
      | (go_at_call 8; refine (whole_any _ _).mono ?_; rintro e v1 ⟨rfl, hv1⟩; obtain ⟨hw1, hn1⟩ := bg0 (n := W4.heap.size) (W0 := W4) (by go_grown) (by go_size) hv1; clear hv1)
      | (go_at_call 24; refine (str_any _ _).mono ?_; rintro e v1 ⟨rfl, hv1⟩; obtain ⟨hw1, hn1⟩ := bg0 (n := W4.heap.size) (W0 := W4) (by go_grown) (by go_size) hv1; clear hv1)
      | (go_at_call 18; refine (lsame_yes _ _ _ _ _).mono ?_; rintro e v1 ⟨rfl, hv1⟩; obtain ⟨hw1, hn1⟩ := bg0 (n := W4.heap.size) (W0 := W4) (by go_grown) (by go_size) hv1; clear hv1)
      | (go_at_call 25; refine (vsame_yes _ _ _ _ _).mono ?_; rintro e v1 ⟨rfl, hv1⟩; obtain ⟨hw1, hn1⟩ := bg0 (n := W4.heap.size) (W0 := W4) (by go_grown) (by go_size) hv1; clear hv1))
  all_goals
    go_wp2
    go_ret
    exact ⟨rfl, L4.trans (Below.mono (B := W4.heap.size) (by go_grown) L4.size)⟩

end Go.Proofs.YtedoahibceeklabGreatDoor
