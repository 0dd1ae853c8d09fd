/- The document's product of two numbers of 64 bits. -/
import Derived.Test.YtedoahibceeklabGreatDoorBig
import Derived.Test.YtedoahibceeklabGreatDoorAny
import Derived.Test.YtedoahibceeklabGreatDoorDivd1
namespace Go.Proofs.YtedoahibceeklabGreatDoor
open Go.RowKit

set_option maxHeartbeats 400000 in
theorem rof_ex (n : Int) (w : World) (h1 : 0 ≤ n) (h2 : n ≤ 18446744073709551615) :
    Calls Tryz.prog 79 #[.int .u64 n] w fun e w' => e = .returned (.agg #[.int .u64 (g0 n), .int .u64 (g1 n), .int .u64 0, .int .u64 0]) ∧ ∃ c1 c2 : Array Value, w' = (w.alloc (.cells c1 110)).alloc (.cells c2 110) := by
  go_enter Tryz.func79, Tryz.ntmps79
  go_wp2
  go_returns
  exact ⟨ret_big (by unfold g0; rfl) (by unfold g1; omega) rfl rfl, _, _, rfl⟩


end Go.Proofs.YtedoahibceeklabGreatDoor
