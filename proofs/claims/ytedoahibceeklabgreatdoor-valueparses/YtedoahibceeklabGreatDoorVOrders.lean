/- The orders of values of one kind. -/
import Derived.Test.YtedoahibceeklabGreatDoorVTexts0
import Derived.Test.YtedoahibceeklabGreatDoorVComp
import Derived.Test.YtedoahibceeklabGreatDoorVReck2
namespace Go.Proofs.YtedoahibceeklabGreatDoor
open Go.RowKit Go.Shelf

set_option maxRecDepth 100000 in
theorem nan64 (x : Int) (w : World) : Calls Tryz.prog 74 #[.int .i64 x] w fun e w' => e = .returned (.bool false) ∧ w' = w := by
  go_enter Tryz.func74, Tryz.ntmps74
  go_wp2
  go_ret
  exact ⟨ret_bool (by simp), rfl⟩

set_option maxRecDepth 100000 in
theorem cmp64 (x y : Int) (w : World) : Calls Tryz.prog 53 #[.int .i64 x, .int .i64 y] w fun e w' => e = .returned (.int .i64 (Lib.compareInt x y)) ∧ w' = w := by
  by_cases h1 : x < y
  · have e0 : Lib.compareInt x y = -1 := by simp [Lib.compareInt, h1]
    rw [e0]
    go_enter Tryz.func53, Tryz.ntmps53
    go_wp2_with fail
    refine (nan64 x _).mono ?_
    rintro e w1 ⟨rfl, rfl⟩
    go_wp2_with fail
    refine (nan64 y _).mono ?_
    rintro e w2 ⟨rfl, rfl⟩
    go_wp2
    go_ret
    exact ⟨rfl, rfl⟩
  · have h1' : (x < y) = False := by simp; omega
    by_cases h2 : y < x
    · have e0 : Lib.compareInt x y = 1 := by simp [Lib.compareInt, h1, h2]
      rw [e0]
      go_enter Tryz.func53, Tryz.ntmps53
      go_wp2_with fail
      refine (nan64 x _).mono ?_
      rintro e w1 ⟨rfl, rfl⟩
      go_wp2_with fail
      refine (nan64 y _).mono ?_
      rintro e w2 ⟨rfl, rfl⟩
      go_wp2
      go_ret
      exact ⟨rfl, rfl⟩
    · have h2' : (y < x) = False := by simp; omega
      have e0 : Lib.compareInt x y = 0 := by simp [Lib.compareInt, h1, h2]
      rw [e0]
      go_enter Tryz.func53, Tryz.ntmps53
      go_wp2_with fail
      refine (nan64 x _).mono ?_
      rintro e w1 ⟨rfl, rfl⟩
      go_wp2_with fail
      refine (nan64 y _).mono ?_
      rintro e w2 ⟨rfl, rfl⟩
      go_wp2
      go_ret
      exact ⟨rfl, rfl⟩

set_option maxRecDepth 100000 in
set_option maxHeartbeats 1000000 in
theorem by_number (k n d : Int) (s : ByteArray) (k' n' d' : Int) (s' : ByteArray) (w : World) :
    Calls Tryz.prog 37 #[.agg #[.int .i64 k, .int .i64 n, .int .i64 d, .string s], .agg #[.int .i64 k', .int .i64 n', .int .i64 d', .string s']] w fun e w' => e = .returned (.int .i64 (Lib.compareInt n n')) ∧ Below w.heap.size w w' := by
  go_enter Tryz.func37, Tryz.ntmps37
  go_wp2_with fail
  refine (cmp64 n n' _).mono ?_
  rintro e w1 ⟨rfl, rfl⟩
  go_wp2
  go_ret
  exact ⟨rfl, by go_grown⟩

set_option maxRecDepth 100000 in
set_option maxHeartbeats 1000000 in
theorem by_bytes (k n d : Int) (s : ByteArray) (k' n' d' : Int) (s' : ByteArray) (w : World) :
    Calls Tryz.prog 39 #[.agg #[.int .i64 k, .int .i64 n, .int .i64 d, .string s], .agg #[.int .i64 k', .int .i64 n', .int .i64 d', .string s']] w fun e w' => e = .returned (.int .i64 (Lib.compareBytes s.data.toList s'.data.toList)) ∧ Below w.heap.size w w' := by
  go_enter Tryz.func39, Tryz.ntmps39
  go_wp2_with fail
  refine (Tryz.strings_Compare s s' _).mono ?_
  rintro e w1 ⟨rfl, rfl⟩
  go_wp2
  go_ret
  exact ⟨rfl, by go_grown⟩

set_option maxRecDepth 100000 in
set_option maxHeartbeats 4000000 in
theorem by_worth (n d : Int) (s : ByteArray) (n' d' : Int) (s' : ByteArray) (w : World) (h1 : -9223372036854775808 ≤ n) (h2 : n ≤ 9223372036854775807) (g1 : -9223372036854775808 ≤ d) (g2 : d ≤ 9223372036854775807) (h1' : -9223372036854775808 ≤ n') (h2' : n' ≤ 9223372036854775807) (g1' : -9223372036854775808 ≤ d') (g2' : d' ≤ 9223372036854775807) :
    Calls Tryz.prog 38 #[.agg #[.int .i64 2, .int .i64 n, .int .i64 d, .string s], .agg #[.int .i64 2, .int .i64 n', .int .i64 d', .string s']] w fun e w' => e = .returned (.int .i64 (cmpV n d n' d')) ∧ Below w.heap.size w w' := by
  go_enter Tryz.func38, Tryz.ntmps38
  go_upto_region 1 with fail
  refine wp_world ?_
  intro W0 hW0
  have A : BlkV W0 w.heap.size 2 n d s := by rw [hW0]; constructor <;> simp (maxDischargeDepth := 12) [go_sem]
  have B : BlkV W0 (w.heap.size + 1) 2 n' d' s' := by rw [hW0]; constructor <;> simp (maxDischargeDepth := 12) [go_sem]
  have z0 : w.heap.size + 1 < W0.heap.size := by rw [hW0]; simp
  have L0 : Below w.heap.size w W0 := by rw [hW0]; go_grown
  have up : ∀ w9, Below W0.heap.size W0 w9 → Below w.heap.size w w9 := fun _ g => L0.trans (g.mono L0.size)
  clear hW0
  obtain ⟨a0, a1, a2, a3, -, -, -, -⟩ := A
  obtain ⟨b0, b1, b2, b3, -, -, -, -⟩ := B
  have z_a : w.heap.size < W0.heap.size := by omega
  go_region_held3 (fun w' => w'.cell? ⟨w.heap.size, 0, none⟩ = some (.int .i64 2) ∧ w'.cell? ⟨w.heap.size, 1, none⟩ = some (.int .i64 n) ∧ w'.cell? ⟨w.heap.size, 2, none⟩ = some (.int .i64 d) ∧ w'.cell? ⟨w.heap.size, 3, none⟩ = some (.string s) ∧ w'.cell? ⟨w.heap.size + 1, 0, none⟩ = some (.int .i64 2) ∧ w'.cell? ⟨w.heap.size + 1, 1, none⟩ = some (.int .i64 n') ∧ w'.cell? ⟨w.heap.size + 1, 2, none⟩ = some (.int .i64 d') ∧ w'.cell? ⟨w.heap.size + 1, 3, none⟩ = some (.string s')) (exact keep8 (show Below W0.heap.size W0 _ from (by repeat' (first | (with_reducible exact Below.refl _ _) | (with_reducible assumption) | (with_reducible refine bdrewN _ ?_) | (with_reducible refine Below.alloc ?_ ?_ _) | (with_reducible refine Below.drew ?_) | go_size))) a0 a1 a2 a3 b0 b1 b2 b3 z_a z0)
    (first
      | (go_at_call 35; refine (frac_any _ _ _ _ _).mono ?_; rintro e wa ⟨rfl, ca1, ca2, rfl⟩)
      | (go_at_call 54; refine (cmp_all n d n' d' _ h1 h2 g1 g2 h1' h2' g1' g2').mono ?_; rintro e w1 ⟨rfl, hb1⟩; obtain ⟨hc1, hf1, hz1, hB1, hn1, hm1⟩ := bg (n := W0.heap.size) (W0 := W0) (by repeat' (first | (with_reducible exact Below.refl _ _) | (with_reducible assumption) | (with_reducible refine bdrewN _ ?_) | (with_reducible refine Below.alloc ?_ ?_ _) | (with_reducible refine Below.drew ?_) | go_size)) (by go_size) hb1; clear hm1))
  all_goals
    go_wp2
    go_ret
    refine ⟨rfl, up _ ?_⟩
    repeat' (first | (with_reducible exact Below.refl _ _) | (with_reducible assumption) | (with_reducible refine bdrewN _ ?_) | (with_reducible refine Below.alloc ?_ ?_ _) | (with_reducible refine Below.drew ?_) | go_size)

set_option maxRecDepth 100000 in
set_option maxHeartbeats 400000 in
theorem otab_ex (w : World) :
    Calls Tryz.prog 22 #[] w fun e w' => e = .returned (.agg #[.nilFunc, .func (.func 37) #[] #[], .func (.func 38) #[] #[], .func (.func 39) #[] #[]]) ∧ ∃ c1 : Array Value, w' = w.alloc (.cells c1 43) := by
  go_enter Tryz.func22, Tryz.ntmps22
  go_wp2
  go_returns
  exact ⟨rfl, _, rfl⟩

set_option maxRecDepth 100000 in
theorem io1 (W : World) : (Instr.index 43 (.agg #[.nilFunc, .func (.func 37) #[] #[], .func (.func 38) #[] #[], .func (.func 39) #[] #[]]) (.int .i64 1)).run Tryz.prog W = .ok (.func (.func 37) #[] #[]) W := by
  simp [Instr.index, run_underlying Tryz.underlying43, asIntOf, part, isAgg, run_underlying Tryz.underlying42, go_sem]
set_option maxRecDepth 100000 in
theorem io2 (W : World) : (Instr.index 43 (.agg #[.nilFunc, .func (.func 37) #[] #[], .func (.func 38) #[] #[], .func (.func 39) #[] #[]]) (.int .i64 2)).run Tryz.prog W = .ok (.func (.func 38) #[] #[]) W := by
  simp [Instr.index, run_underlying Tryz.underlying43, asIntOf, part, isAgg, run_underlying Tryz.underlying42, go_sem]
set_option maxRecDepth 100000 in
theorem io3 (W : World) : (Instr.index 43 (.agg #[.nilFunc, .func (.func 37) #[] #[], .func (.func 38) #[] #[], .func (.func 39) #[] #[]]) (.int .i64 3)).run Tryz.prog W = .ok (.func (.func 39) #[] #[]) W := by
  simp [Instr.index, run_underlying Tryz.underlying43, asIntOf, part, isAgg, run_underlying Tryz.underlying42, go_sem]

end Go.Proofs.YtedoahibceeklabGreatDoor
