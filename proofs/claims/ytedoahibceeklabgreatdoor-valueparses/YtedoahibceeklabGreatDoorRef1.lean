/- The document's Of and MayBe. -/
import Derived.Test.YtedoahibceeklabGreatDoorMade
import Derived.Test.YtedoahibceeklabGreatDoorAny
import Derived.Test.YtedoahibceeklabGreatDoorTimes
namespace Go.Proofs.YtedoahibceeklabGreatDoor
open Go.RowKit

/-- What made tells, as the least form of a number by its sign and size. -/
theorem rmade_r (b : Bool) (n d : Int) (w : World) (hn : 0 ≤ n) (hn' : n ≤ 170141183460469231731687303715884105728) (hd : 0 < d) (hd' : d ≤ 170141183460469231731687303715884105728) (hbn : b = true → 0 < n) :
    Calls Tryz.prog 81 #[.bool b, .agg #[.int .u64 (g0 n), .int .u64 (g1 n), .int .u64 (g2 n), .int .u64 (g3 n)], .agg #[.int .u64 (g0 d), .int .u64 (g1 d), .int .u64 (g2 d), .int .u64 (g3 d)]] w fun e w' => e = .returned (.tuple #[.agg #[.int .i64 (rN (sg b n) d), .int .i64 (rD (sg b n) d)], .int .i64 (rE (sg b n) d)]) ∧ Below w.heap.size w w' := by
  have h := rmade_any b n d w hn hn' hd hd' hbn
  have e1 := sg_div b n (gc n d) (gc_dvd_left n d hn)
  have e2 : sz (sg b n) = n := by rw [sz_sg, sz_of_nonneg hn]
  unfold rN rD rE
  rw [e2, ← e1]
  exact h

set_option maxHeartbeats 400000 in
theorem rOf_zero (n : Int) (w : World) :
    Calls Tryz.prog 60 #[.int .i64 n, .int .i64 0] w fun e w' => e = .returned (.tuple #[.agg #[.int .i64 0, .int .i64 0], .int .i64 11]) ∧ Below w.heap.size w w' := by
  go_enter Tryz.func60, Tryz.ntmps60
  go_wp2
  go_returns
  exact ⟨rfl, by go_grown⟩

theorem rof_exg (n : Int) (w : World) (h1 : 0 ≤ n) (h2 : n ≤ 18446744073709551615) :
    Calls Tryz.prog 79 #[.int .u64 n] w fun e w' => e = .returned (.agg #[.int .u64 (g0 n), .int .u64 (g1 n), .int .u64 (g2 n), .int .u64 (g3 n)]) ∧ ∃ c1 c2 : Array Value, w' = (w.alloc (.cells c1 110)).alloc (.cells c2 110) := by
  have e2 : g2 n = 0 := by unfold g2; omega
  have e3 : g3 n = 0 := by unfold g3; omega
  rw [e2, e3]; exact rof_ex n w h1 h2

set_option maxRecDepth 100000 in
set_option maxHeartbeats 1000000 in
theorem rOf_raw (b : Bool) (n d : Int) (w : World) (h1 : -9223372036854775808 ≤ n) (h2 : n ≤ 9223372036854775807) (k1 : -9223372036854775808 ≤ d) (k2 : d ≤ 9223372036854775807) (hd : (d == 0) = false) (z1 : 0 ≤ sz n) (z2 : sz n ≤ 9223372036854775808) (z3 : 0 < sz d) (z4 : sz d ≤ 9223372036854775808) (hbn : b = true → 0 < sz n)
    (hc : (n = 0 ∧ b = false) ∨ ((n != 0) = true ∧ b = (decide (n < 0) != decide (d < 0)))) :
    Calls Tryz.prog 60 #[.int .i64 n, .int .i64 d] w fun e w' => e = .returned (.tuple #[.agg #[.int .i64 (rN (sg b (sz n)) (sz d)), .int .i64 (rD (sg b (sz n)) (sz d))], .int .i64 (rE (sg b (sz n)) (sz d))]) ∧ Below w.heap.size w w' := by
  have HM : Hid (∀ W : World, Calls Tryz.prog 81 #[.bool b, .agg #[.int .u64 (g0 (sz n)), .int .u64 (g1 (sz n)), .int .u64 (g2 (sz n)), .int .u64 (g3 (sz n))], .agg #[.int .u64 (g0 (sz d)), .int .u64 (g1 (sz d)), .int .u64 (g2 (sz d)), .int .u64 (g3 (sz d))]] W fun e w' => e = .returned (.tuple #[.agg #[.int .i64 (rN (sg b (sz n)) (sz d)), .int .i64 (rD (sg b (sz n)) (sz d))], .int .i64 (rE (sg b (sz n)) (sz d))]) ∧ Below W.heap.size W w') :=
    fun W => rmade_r b (sz n) (sz d) W z1 (by omega) z3 (by omega) hbn
  clear hbn
  rcases hc with ⟨hn, hb⟩ | ⟨hn, hb⟩
  · subst hn; subst hb
    go_enter Tryz.func60, Tryz.ntmps60
    go_wp2_with (first
      | (go_at_call 80; refine (rsize_any _ _ (by omega) (by omega)).mono ?_; rintro e w' ⟨rfl, rfl⟩)
      | (go_at_call 79; refine (rof_exg _ _ (by omega) (by omega)).mono ?_; rintro e w' ⟨rfl, c1, c2, rfl⟩)
      | (go_at_call 81; refine (HM.out _).mono ?_; rintro e w3 ⟨rfl, hb⟩; obtain ⟨hc, hf, hz, hB⟩ := bf (w := w) (by go_grown) hb; have bR : Hid (Blk2 w3 (w.heap.size) 0 0) := Blk2.below (by constructor <;> simp (maxDischargeDepth := 12) [go_sem]) hb (by go_size)))
    generalize hW9 : World.setCell _ _ _ = W9
    have b9 := bR.out.two (rN (sg false (sz 0)) (sz d)) (rD (sg false (sz 0)) (sz d))
    rw [hW9] at b9
    have hB9 : Below w.heap.size w W9 := by rw [← hW9]; exact Below.setCell (Below.setCell hB (by simp) _) (by simp) _
    clear hW9 hc hf hz hB hb bR
    obtain ⟨x0, x1, -, -⟩ := b9
    refine bodyPost_ret (by simp [results, Tryz.results60, go_sem, x0, x1]; try rfl) rfl ?_
    exact ⟨rfl, hB9⟩
  · have hb' : b = !(decide (n < 0) == decide (d < 0)) := hb
    subst hb'
    clear hb
    go_enter Tryz.func60, Tryz.ntmps60
    go_wp2_with (first
      | (go_at_call 80; refine (rsize_any _ _ (by omega) (by omega)).mono ?_; rintro e w' ⟨rfl, rfl⟩)
      | (go_at_call 79; refine (rof_exg _ _ (by omega) (by omega)).mono ?_; rintro e w' ⟨rfl, c1, c2, rfl⟩)
      | (go_at_call 81; refine (HM.out _).mono ?_; rintro e w3 ⟨rfl, hb⟩; obtain ⟨hc, hf, hz, hB⟩ := bf (w := w) (by go_grown) hb; have bR : Hid (Blk2 w3 (w.heap.size) 0 0) := Blk2.below (by constructor <;> simp (maxDischargeDepth := 12) [go_sem]) hb (by go_size)))
    generalize hW9 : World.setCell _ _ _ = W9
    have b9 := bR.out.two (rN (sg (!(decide (n < 0) == decide (d < 0))) (sz n)) (sz d)) (rD (sg (!(decide (n < 0) == decide (d < 0))) (sz n)) (sz d))
    rw [hW9] at b9
    have hB9 : Below w.heap.size w W9 := by rw [← hW9]; exact Below.setCell (Below.setCell hB (by simp) _) (by simp) _
    clear hW9 hc hf hz hB hb bR
    obtain ⟨x0, x1, -, -⟩ := b9
    refine bodyPost_ret (by simp [results, Tryz.results60, go_sem, x0, x1]; try rfl) rfl ?_
    exact ⟨rfl, hB9⟩

theorem rOf_all (n d : Int) (w : World) (h1 : -9223372036854775808 ≤ n) (h2 : n ≤ 9223372036854775807) (k1 : -9223372036854775808 ≤ d) (k2 : d ≤ 9223372036854775807) :
    Calls Tryz.prog 60 #[.int .i64 n, .int .i64 d] w fun e w' => e = .returned (.tuple #[.agg #[.int .i64 (oN n d), .int .i64 (oD n d)], .int .i64 (oE n d)]) ∧ Below w.heap.size w w' := by
  unfold oN oD oE
  by_cases h : d = 0
  · subst h; simpa using rOf_zero n w
  · rw [if_neg h, if_neg h, if_neg h]
    have z3 : 0 < sz d := by unfold sz; omega
    by_cases hn : n = 0
    · have e : ofP n d = sg false (sz n) := by subst hn; unfold ofP sg sz; simp
      rw [e]
      exact rOf_raw false n d w h1 h2 k1 k2 (by simpa using h) (sz_nonneg n) (sz_le h1 h2) z3 (sz_le k1 k2) (by simp) (Or.inl ⟨hn, rfl⟩)
    · have e : ofP n d = sg (decide (n < 0) != decide (d < 0)) (sz n) := (sg_sz n (decide (d < 0))).symm
      rw [e]
      exact rOf_raw _ n d w h1 h2 k1 k2 (by simpa using h) (sz_nonneg n) (sz_le h1 h2) z3 (sz_le k1 k2) (fun _ => by unfold sz; omega) (Or.inr ⟨by simpa using hn, rfl⟩)

theorem may_neg {n d : Int} (h : d ≤ 0) : mayB n d = false := by
  cases e : mayB n d
  · rfl
  · have := (may_of e).1; omega

set_option maxHeartbeats 400000 in
theorem rmay_any (n d : Int) (w : World) (h1 : -9223372036854775808 ≤ n) (h2 : n ≤ 9223372036854775807) (g1 : -9223372036854775808 ≤ d) (g2 : d ≤ 9223372036854775807) :
    Calls Tryz.prog 42 #[.agg #[.int .i64 n, .int .i64 d]] w fun e w' => e = .returned (.bool (mayB n d)) ∧ Below w.heap.size w w' := by
  by_cases hd : d ≤ 0
  · rw [may_neg hd]
    go_enter Tryz.func42, Tryz.ntmps42
    go_wp2
    go_ret
    exact ⟨rfl, by go_grown⟩
  · have hd2 : (d ≤ 0) = False := by simp; omega
    by_cases a1 : oE n d = 0
    · go_enter Tryz.func42, Tryz.ntmps42
      go_wp2_with (first
        | (go_at_call 60; refine (rOf_all _ _ _ h1 h2 g1 g2).mono ?_; rintro e w1 ⟨rfl, hb⟩; obtain ⟨hc, hf, hz, hB⟩ := bf (w := w) (by go_grown) hb; simp only [World.size_alloc] at hz; have z0 : w.heap.size < w1.heap.size := by omega))
      all_goals
        go_ret
        exact ⟨by simp [mayB, *], by go_grown⟩
    · have a2 : (oE n d == 0) = false := by simpa using a1
      go_enter Tryz.func42, Tryz.ntmps42
      go_wp2_with (first
        | (go_at_call 60; refine (rOf_all _ _ _ h1 h2 g1 g2).mono ?_; rintro e w1 ⟨rfl, hb⟩; obtain ⟨hc, hf, hz, hB⟩ := bf (w := w) (by go_grown) hb; simp only [World.size_alloc] at hz; have z0 : w.heap.size < w1.heap.size := by omega))
      all_goals
        go_ret
        exact ⟨by simp [mayB, a2], by go_grown⟩

end Go.Proofs.YtedoahibceeklabGreatDoor
