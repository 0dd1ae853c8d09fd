/- The very memory that rat.split leaves. -/
import Derived.Test.YtedoahibceeklabGreatDoorAny
namespace Go.Proofs.YtedoahibceeklabGreatDoor
open Go.RowKit Go.Shelf

set_option maxHeartbeats 400000 in
theorem split_exact (n d : Int) (w : World) (h1 : -9223372036854775808 ≤ n) (h2 : n ≤ 9223372036854775807) (g1 : -9223372036854775808 ≤ d) (g2 : d ≤ 9223372036854775807) :
    Calls Tryz.prog 72 #[.agg #[.int .i64 n, .int .i64 d]] w fun e w' => e = .returned (.agg #[.bool (decide (n < 0)), .int .u64 (sz n), .int .u64 (sz d)]) ∧
      w' = ((w.alloc (Obj.cells #[.int .i64 n, .int .i64 d] 55)).alloc (Obj.cells #[.bool (decide (n < 0)), .int .u64 (sz n), .int .u64 (sz d)] 101)).drew := by
  go_enter Tryz.func72, Tryz.ntmps72
  go_wp2
  go_region_held3 (fun w' => w'.cell? ⟨w.heap.size, 0, none⟩ = some (.int .i64 n) ∧ w'.cell? ⟨w.heap.size, 1, none⟩ = some (.int .i64 d)) (simp [go_sem])
    (first
      | (go_at_call 67; refine (size_any _ _ (by omega) (by omega)).mono ?_; rintro e w' ⟨rfl, rfl⟩))
  go_wp2
  go_returns
  exact ⟨rfl, rfl⟩

end Go.Proofs.YtedoahibceeklabGreatDoor
