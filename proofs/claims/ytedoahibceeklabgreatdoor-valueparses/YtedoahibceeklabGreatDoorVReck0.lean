/- The table of reckonings. -/
import Derived.Test.YtedoahibceeklabGreatDoorVParse2
import Derived.Test.YtedoahibceeklabGreatDoorPub
import Derived.Deep.DeepCutAuto
import Derived.Laws.EntriesVeiled
namespace Go.Proofs.YtedoahibceeklabGreatDoor
open Go.RowKit Go.Shelf

/-- A block that holds a fraction, which may be written. -/
structure BlkR (W : World) (B : Nat) (n d : Int) : Prop where
  c0 : W.cell? ⟨B, 0, none⟩ = some (.int .i64 n)
  c1 : W.cell? ⟨B, 1, none⟩ = some (.int .i64 d)
theorem BlkR.below {W W' : World} {B m : Nat} {n d : Int} (h : BlkR W B n d) (hb : Below m W W') (hB : B < m) : BlkR W' B n d :=
  ⟨(hb.cell (p := ⟨B, 0, none⟩) hB).trans h.c0, (hb.cell (p := ⟨B, 1, none⟩) hB).trans h.c1⟩

set_option maxRecDepth 100000 in
set_option maxHeartbeats 400000 in
theorem tab_ex (w : World) :
    Calls Tryz.prog 34 #[] w fun e w' => e = .returned (.agg #[.func (.func 50) #[] #[], .func (.func 51) #[] #[], .func (.func 52) #[] #[]]) ∧ ∃ c1 : Array Value, w' = w.alloc (.cells c1 59) := by
  go_enter Tryz.func34, Tryz.ntmps34
  go_wp2
  go_returns
  exact ⟨rfl, _, rfl⟩

set_option maxRecDepth 100000 in
theorem ix0 (W : World) : (Instr.index 59 (.agg #[.func (.func 50) #[] #[], .func (.func 51) #[] #[], .func (.func 52) #[] #[]]) (.int .i64 0)).run Tryz.prog W = .ok (.func (.func 50) #[] #[]) W := by
  simp [Instr.index, run_underlying Tryz.underlying59, asIntOf, part, isAgg, run_underlying Tryz.underlying58, go_sem]
set_option maxRecDepth 100000 in
theorem ix1 (W : World) : (Instr.index 59 (.agg #[.func (.func 50) #[] #[], .func (.func 51) #[] #[], .func (.func 52) #[] #[]]) (.int .i64 1)).run Tryz.prog W = .ok (.func (.func 51) #[] #[]) W := by
  simp [Instr.index, run_underlying Tryz.underlying59, asIntOf, part, isAgg, run_underlying Tryz.underlying58, go_sem]
set_option maxRecDepth 100000 in
theorem ix2 (W : World) : (Instr.index 59 (.agg #[.func (.func 50) #[] #[], .func (.func 51) #[] #[], .func (.func 52) #[] #[]]) (.int .i64 2)).run Tryz.prog W = .ok (.func (.func 52) #[] #[]) W := by
  simp [Instr.index, run_underlying Tryz.underlying59, asIntOf, part, isAgg, run_underlying Tryz.underlying58, go_sem]

end Go.Proofs.YtedoahibceeklabGreatDoor
