/- The law ValueNumbers: its walk. -/
import Derived.Test.YtiafehclgglphaaGreatDoorVLive
namespace Go.Proofs.YtiafehclgglphaaGreatDoor
open Go.RowKit Go.Shelf

set_option maxRecDepth 100000 in
set_option maxHeartbeats 2000000 in
theorem numbers_walk (w : World) (ht : Pow w) : Calls Tryz.prog 3 #[] w fun e w' => e = .returned (.bool true) ∧ Below w.heap.size w w' := by
  go_enter Tryz.func3, Tryz.ntmps3
  go_wp2_with fail
  refine (whole_any 9223372036854775807 _).mono ?_
  rintro e w1 ⟨rfl, hb1⟩
  go_wp2_with fail
  refine (whole_any 1 _).mono ?_
  rintro e w2 ⟨rfl, hb2⟩
  go_wp2_with fail
  refine (add_over _).mono ?_
  rintro e w3 ⟨rfl, hb3⟩
  have K3 : Below w.heap.size w w3 := (hb1.trans (hb2.mono hb1.size)).trans (hb3.mono (Nat.le_trans hb1.size hb2.size))
  clear hb1 hb2 hb3
  go_wp2_with fail
  refine (live_any _ (ht.below (K3.alloc K3.size _))).mono ?_
  rintro e w4 ⟨rfl, hb4⟩
  have K4 : Below w.heap.size w w4 := (K3.alloc K3.size _).trans (hb4.mono (K3.alloc K3.size _).size)
  clear hb4 K3
  go_wp2_with fail
  refine (part_any 2 4 _).mono ?_
  rintro e w5 ⟨rfl, hb5⟩
  go_wp2_with fail
  refine (check_24 _).mono ?_
  rintro e w6 ⟨rfl, hb6⟩
  go_wp2_with fail
  refine (part_any 0 1 _).mono ?_
  rintro e w7 ⟨rfl, hb7⟩
  go_wp2_with fail
  refine (check_01 _).mono ?_
  rintro e w8 ⟨rfl, hb8⟩
  have K8 : Below w4.heap.size w4 w8 := ((hb5.trans (hb6.mono hb5.size)).trans (hb7.mono (Nat.le_trans hb5.size hb6.size))).trans (hb8.mono (Nat.le_trans (Nat.le_trans hb5.size hb6.size) hb7.size))
  go_wp2
  go_ret
  exact ⟨rfl, K4.trans (K8.mono K4.size)⟩

end Go.Proofs.YtiafehclgglphaaGreatDoor
