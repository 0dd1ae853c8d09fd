/- What rat.Of, rat.may, rat.split do. -/
import Derived.Test.YtedoahibceeklabGreatDoorSmall
import Derived.Deep.RegionHeld3
namespace Go.Proofs.YtedoahibceeklabGreatDoor
open Go.RowKit

theorem u64_tdiv (a b : Int) (ha : 0 ≤ a) (ha' : a ≤ 18446744073709551615) (hb : 0 < b) : IntKind.u64.wrap (a.tdiv b) = a / b := by
  rw [Int.tdiv_eq_ediv_of_nonneg ha, IntKind.wrap_u64]
  have h1 := div_le_self a b ha hb
  have h2 : 0 ≤ a / b := Int.ediv_nonneg ha (by omega)
  omega

set_option maxHeartbeats 400000 in
theorem of_zero (n : Int) (w : World) :
    Calls Tryz.prog 48 #[.int .i64 n, .int .i64 0] w fun e w' => e = .returned (.tuple #[.agg #[.int .i64 0, .int .i64 0], .int .i64 11]) ∧ Below w.heap.size w w' := by
  go_enter Tryz.func48, Tryz.ntmps48
  go_wp2
  go_returns
  exact ⟨rfl, by go_grown⟩

set_option maxHeartbeats 400000 in
theorem of_raw (n d : Int) (w : World) (h1 : -9223372036854775808 ≤ n) (h2 : n ≤ 9223372036854775807) (g1 : -9223372036854775808 ≤ d) (g2 : d ≤ 9223372036854775807) (hd : (d == 0) = false) :
    Calls Tryz.prog 48 #[.int .i64 n, .int .i64 d] w fun e w' => (∃ b : Bool, b = (!(decide (n < 0) == decide (d < 0))) ∧ e = .returned (.tuple #[.agg #[.int .i64 (outN (sg b (sz n / gc (sz n) (sz d))) (sz d / gc (sz n) (sz d))), .int .i64 (outD (sg b (sz n / gc (sz n) (sz d))) (sz d / gc (sz n) (sz d)))], .int .i64 (outE (sg b (sz n / gc (sz n) (sz d))) (sz d / gc (sz n) (sz d)))])) ∧ Below w.heap.size w w' := by
  have hd' : d ≠ 0 := by simpa using hd
  have hz : 0 < sz d := by unfold sz; omega
  have hz2 := sz_nonneg n
  have hz3 := sz_le h1 h2
  have hz4 := sz_le g1 g2
  have hp := gc_pos (sz n) (sz d) hz
  have q1 : 0 ≤ sz n / gc (sz n) (sz d) := Int.ediv_nonneg hz2 (by omega)
  have q2 : 0 ≤ sz d / gc (sz n) (sz d) := Int.ediv_nonneg (by omega) (by omega)
  have q3 := div_le_self (sz n) _ hz2 hp
  have q4 := div_le_self (sz d) _ (by omega) hp
  have hne : ¬ gc (sz n) (sz d) = 0 := by omega
  have t1 := u64_tdiv (sz n) (gc (sz n) (sz d)) hz2 (by omega) hp
  have t2 := u64_tdiv (sz d) (gc (sz n) (sz d)) (by omega) (by omega) hp
  clear hd'
  go_enter Tryz.func48, Tryz.ntmps48
  go_wp2_with (first
    | (go_at_call 67; refine (size_any _ _ (by omega) (by omega)).mono ?_; rintro e w' ⟨rfl, rfl⟩)
    | (go_at_call 68; refine (divisor_any _ _ _ (by omega) (by omega) (by omega) (by omega)).mono ?_; rintro e w' ⟨rfl, k, rfl⟩))
  go_region_held3 (fun _ => True) (trivial)
    (first
      | (go_at_call 69; refine (fit_any _ _ _ _ q1 (by omega) q2 (by omega)).mono ?_; rintro e w1 ⟨rfl, hb⟩; obtain ⟨hc, hf, hz5, hB⟩ := bf (w := w) (bdrewN _ (by go_grown)) hb))
  go_wp2
  refine bodyPost_ret (by simp [results, Tryz.results48, go_sem, hc]; try rfl) rfl ?_
  refine ⟨⟨_, rfl, rfl⟩, ?_⟩
  go_grown

/-- The numerator that Of takes to the least form: d's sign goes there. -/
def ofP (n d : Int) : Int := sg (decide (d < 0)) n

theorem of_any (n d : Int) (w : World) (h1 : -9223372036854775808 ≤ n) (h2 : n ≤ 9223372036854775807) (g1 : -9223372036854775808 ≤ d) (g2 : d ≤ 9223372036854775807) (hd : (d == 0) = false) :
    Calls Tryz.prog 48 #[.int .i64 n, .int .i64 d] w fun e w' => e = .returned (.tuple #[.agg #[.int .i64 (rN (ofP n d) (sz d)), .int .i64 (rD (ofP n d) (sz d))], .int .i64 (rE (ofP n d) (sz d))]) ∧ Below w.heap.size w w' := by
  refine (of_raw n d w h1 h2 g1 g2 hd).mono ?_
  rintro e w' ⟨⟨b, rfl, rfl⟩, hb⟩
  refine ⟨?_, hb⟩
  have e1 : sg (!(decide (n < 0) == decide (d < 0))) (sz n / gc (sz n) (sz d)) = ofP n d / gc (sz n) (sz d) := by
    rw [sg_div _ _ _ (gc_dvd_left _ _ (sz_nonneg n))]
    exact congrArg (· / gc (sz n) (sz d)) (sg_sz n (decide (d < 0)))
  have e2 : sz (ofP n d) = sz n := sz_sg _ _
  unfold rN rD rE
  rw [e1, e2]

/-- What Of tells of any two numbers. -/
def oN (n d : Int) : Int := if d = 0 then 0 else rN (ofP n d) (sz d)
def oD (n d : Int) : Int := if d = 0 then 0 else rD (ofP n d) (sz d)
def oE (n d : Int) : Int := if d = 0 then 11 else rE (ofP n d) (sz d)

theorem of_all (n d : Int) (w : World) (h1 : -9223372036854775808 ≤ n) (h2 : n ≤ 9223372036854775807) (g1 : -9223372036854775808 ≤ d) (g2 : d ≤ 9223372036854775807) :
    Calls Tryz.prog 48 #[.int .i64 n, .int .i64 d] w fun e w' => e = .returned (.tuple #[.agg #[.int .i64 (oN n d), .int .i64 (oD n d)], .int .i64 (oE n d)]) ∧ Below w.heap.size w w' := by
  unfold oN oD oE
  by_cases h : d = 0
  · subst h; simpa using of_zero n w
  · simpa [h] using of_any n d w h1 h2 g1 g2 (by simpa using h)

/-- May a fraction be, by Of alone? -/
def mayB (n d : Int) : Bool := oE n d == 0 && (oN n d == n && oD n d == d)

set_option maxHeartbeats 400000 in
theorem may_any (n d : Int) (w : World) (h1 : -9223372036854775808 ≤ n) (h2 : n ≤ 9223372036854775807) (g1 : -9223372036854775808 ≤ d) (g2 : d ≤ 9223372036854775807) :
    Calls Tryz.prog 70 #[.agg #[.int .i64 n, .int .i64 d]] w fun e w' => e = .returned (.bool (mayB n d)) ∧ Below w.heap.size w w' := by
  by_cases a1 : oE n d = 0
  · go_enter Tryz.func70, Tryz.ntmps70
    go_wp2_with (first
      | (go_at_call 48; refine (of_all _ _ _ h1 h2 g1 g2).mono ?_; rintro e w1 ⟨rfl, hb⟩; obtain ⟨hc, hf, hz, hB⟩ := bf (w := w) (by go_grown) hb; simp only [World.size_alloc] at hz; have z0 : w.heap.size < w1.heap.size := by omega))
    all_goals
      go_ret
      exact ⟨by simp [mayB, *], by go_grown⟩
  · have a2 : (oE n d == 0) = false := by simpa using a1
    go_enter Tryz.func70, Tryz.ntmps70
    go_wp2_with (first
      | (go_at_call 48; refine (of_all _ _ _ h1 h2 g1 g2).mono ?_; rintro e w1 ⟨rfl, hb⟩; obtain ⟨hc, hf, hz, hB⟩ := bf (w := w) (by go_grown) hb; simp only [World.size_alloc] at hz; have z0 : w.heap.size < w1.heap.size := by omega))
    all_goals
      go_ret
      exact ⟨by simp [mayB, a2], by go_grown⟩

set_option maxHeartbeats 400000 in
theorem split_any (n d : Int) (w : World) (h1 : -9223372036854775808 ≤ n) (h2 : n ≤ 9223372036854775807) (g1 : -9223372036854775808 ≤ d) (g2 : d ≤ 9223372036854775807) :
    Calls Tryz.prog 72 #[.agg #[.int .i64 n, .int .i64 d]] w fun e w' => e = .returned (.agg #[.bool (decide (n < 0)), .int .u64 (sz n), .int .u64 (sz d)]) ∧ Below w.heap.size w w' := by
  go_enter Tryz.func72, Tryz.ntmps72
  go_wp2
  go_region_held3 (fun w' => w'.cell? ⟨w.heap.size, 0, none⟩ = some (.int .i64 n) ∧ w'.cell? ⟨w.heap.size, 1, none⟩ = some (.int .i64 d)) (simp [go_sem])
    (first
      | (go_at_call 67; refine (size_any _ _ (by omega) (by omega)).mono ?_; rintro e w' ⟨rfl, rfl⟩))
  go_wp2
  go_returns
  exact ⟨rfl, by go_grown⟩

end Go.Proofs.YtedoahibceeklabGreatDoor
