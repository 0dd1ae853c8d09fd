/- The laws' own 'same' and 'ref'. -/
import Derived.Test.YteibabmdconibaaLive
import Derived.Test.YteibabmdconibaaRef1
namespace Go.Proofs.Yteibabmdconibaa
open Go.RowKit Go.Shelf

set_option maxHeartbeats 400000 in
theorem lsame_any (x y : Int) (w : World) :
    Calls Try.prog 13 #[.agg #[.int .i64 x, .int .i64 y], .agg #[.int .i64 x, .int .i64 y]] w fun e w' => e = .returned (.bool true) ∧ Below w.heap.size w w' := by
  go_enter Try.func13, Try.ntmps13
  go_wp2
  go_ret
  exact ⟨rfl, by go_grown⟩

set_option maxHeartbeats 400000 in
theorem lref_ex (x y : Int) (w : World) :
    Calls Try.prog 15 #[.agg #[.int .i64 x, .int .i64 y]] w fun e w' => e = .returned (.agg #[.int .i64 x, .int .i64 y]) ∧ ∃ (c1 c2 : Array Value), w' = (w.alloc (.cells c1 23)).alloc (.cells c2 29) := by
  go_enter Try.func15, Try.ntmps15
  go_wp2
  go_returns
  exact ⟨rfl, _, _, rfl⟩

end Go.Proofs.Yteibabmdconibaa
