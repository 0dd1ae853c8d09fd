/- The law ValueChecks: its walk. -/
import Derived.Test.YtiafehclgglphaaGreatDoorVLive
import Derived.Test.YtiafehclgglphaaGreatDoorVCheck0
namespace Go.Proofs.YtiafehclgglphaaGreatDoor
open Go.RowKit Go.Shelf

set_option maxRecDepth 100000 in
set_option maxHeartbeats 4000000 in
theorem checks_walk (k n d : Int) (s : ByteArray) (h1 : -9223372036854775808 ≤ n) (h2 : n ≤ 9223372036854775807) (g1 : -9223372036854775808 ≤ d) (g2 : d ≤ 9223372036854775807) (w : World) (ht : Pow w) :
    Calls Tryz.prog 4 #[.agg #[.int .i64 k, .int .i64 n, .int .i64 d, .string s]] w fun e w' => e = .returned (.bool true) ∧ Below w.heap.size w w' := by
  go_enter Tryz.func4, Tryz.ntmps4
  go_upto_region 1 with fail
  refine wp_world ?_
  intro W0 hW0
  have A : BlkV W0 w.heap.size k n d s := by rw [hW0]; constructor <;> simp (maxDischargeDepth := 12) [go_sem]
  have z0 : w.heap.size < W0.heap.size := by rw [hW0]; simp
  have L0 : Below w.heap.size w W0 := by rw [hW0]; exact (Below.refl _ _).alloc (Nat.le_refl _) _
  have P0 : Hid (Pow W0) := ht.below L0
  have up : ∀ w9, Below W0.heap.size W0 w9 → Below w.heap.size w w9 := fun _ g => L0.trans (g.mono L0.size)
  clear hW0 ht
  obtain ⟨A0, A1, A2, A3, -, -, -, -⟩ := A
  go_region_held3 (fun w' => Below W0.heap.size W0 w' ∧ w'.cell? ⟨w.heap.size, 0, none⟩ = some (.int .i64 k) ∧ w'.cell? ⟨w.heap.size, 1, none⟩ = some (.int .i64 n) ∧ w'.cell? ⟨w.heap.size, 2, none⟩ = some (.int .i64 d) ∧ w'.cell? ⟨w.heap.size, 3, none⟩ = some (.string s)) (exact ⟨by go_grown, bcl (n := W0.heap.size) (by go_grown) A0 (by simp; try omega), bcl (n := W0.heap.size) (by go_grown) A1 (by simp; try omega), bcl (n := W0.heap.size) (by go_grown) A2 (by simp; try omega), bcl (n := W0.heap.size) (by go_grown) A3 (by simp; try omega)⟩)
    (first
      | (go_at_call 11; refine (live_any _ (P0.out.below (by go_grown))).mono ?_; rintro e w1 ⟨rfl, hb1⟩; obtain ⟨hc1, hf1, hz1, hB1, hn1, hm1⟩ := bg (n := W0.heap.size) (W0 := W0) (by go_grown) (by go_size) hb1; clear hm1)
      | (go_at_call 12; refine (check_any k n d s _ h1 h2 g1 g2).mono ?_; rintro e w1 ⟨rfl, hb1⟩; obtain ⟨hc1, hf1, hz1, hB1, hn1, hm1⟩ := bg (n := W0.heap.size) (W0 := W0) (by go_grown) (by go_size) hb1; clear hm1)
      | (go_at_call 14; refine (rcheck_any k n d s _ h1 h2 g1 g2).mono ?_; rintro e w1 ⟨rfl, hb1⟩; obtain ⟨hc1, hf1, hz1, hB1, hn1, hm1⟩ := bg (n := W0.heap.size) (W0 := W0) (by go_grown) (by go_size) hb1; clear hm1))
  all_goals
    go_wp2
    go_ret
    refine ⟨rfl, up _ ?_⟩
    repeat' (first | (with_reducible exact Below.refl _ _) | (with_reducible assumption) | (with_reducible refine bdrewN _ ?_) | (with_reducible refine Below.alloc ?_ ?_ _) | (with_reducible refine Below.drew ?_) | go_size)

end Go.Proofs.YtiafehclgglphaaGreatDoor
