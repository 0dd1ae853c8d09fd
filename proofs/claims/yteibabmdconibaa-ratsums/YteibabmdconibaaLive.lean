/- What the law's own helpers tell: live, may. -/
import Derived.Test.YteibabmdconibaaPub
namespace Go.Proofs.Yteibabmdconibaa
open Go.RowKit Go.Shelf

/-- Behind a callee that only makes new memory an old cell holds what it held; a block behind which something was laid is an old one. -/
theorem old {W w1 : World} (hb : Below W.heap.size W w1) {b o : Nat} {v : Value} (h : W.cell? ⟨b, o, none⟩ = some v) (ha : b < W.heap.size) : w1.cell? ⟨b, o, none⟩ = some v := bcl hb h ha
theorem oldlt {W w1 : World} (hb : Below W.heap.size W w1) {b : Nat} (ha : b < W.heap.size) : b < w1.heap.size := Nat.lt_of_lt_of_le ha hb.size
theorem upon {w W w1 : World} (h0 : Below w.heap.size w W) (hb : Below W.heap.size W w1) : Below w.heap.size w w1 := h0.trans (hb.mono h0.size)

theorem of_c1 (w : World) : Calls Try.prog 9 #[.int .i64 2, .int .i64 (-4)] w fun e w' => e = .returned (.tuple #[.agg #[.int .i64 (-1), .int .i64 2], .int .i64 0]) ∧ Below w.heap.size w w' := by
  have h := of_all 2 (-4) w (by decide) (by decide) (by decide) (by decide)
  rwa [show oN 2 (-4) = -1 by decide +kernel, show oD 2 (-4) = 2 by decide +kernel, show oE 2 (-4) = 0 by decide +kernel] at h
theorem of_c2 (w : World) : Calls Try.prog 9 #[.int .i64 1, .int .i64 0] w fun e w' => e = .returned (.tuple #[.agg #[.int .i64 0, .int .i64 0], .int .i64 11]) ∧ Below w.heap.size w w' := of_zero 1 w
theorem add_c1 (w : World) : Calls Try.prog 10 #[.agg #[.int .i64 1, .int .i64 2], .agg #[.int .i64 1, .int .i64 3]] w fun e w' => e = .returned (.tuple #[.agg #[.int .i64 5, .int .i64 6], .int .i64 0]) ∧ Below w.heap.size w w' := by
  have h := add_all 1 2 1 3 w (by decide) (by decide) (by decide) (by decide) (by decide) (by decide) (by decide) (by decide)
  rwa [show tN 1 2 1 3 (1 * 3 + 1 * 2) (2 * 3) = 5 by decide +kernel, show tD 1 2 1 3 (1 * 3 + 1 * 2) (2 * 3) = 6 by decide +kernel, show tE 1 2 1 3 (1 * 3 + 1 * 2) (2 * 3) = 0 by decide +kernel] at h
theorem cmp_c1 (w : World) : Calls Try.prog 23 #[.agg #[.int .i64 (-1), .int .i64 2], .agg #[.int .i64 5, .int .i64 6]] w fun e w' => e = .returned (.int .i64 (-1)) ∧ Below w.heap.size w w' := by
  have h := cmp_all (-1) 2 5 6 w (by decide) (by decide) (by decide) (by decide) (by decide) (by decide) (by decide) (by decide)
  rwa [show cmpV (-1) 2 5 6 = -1 by decide +kernel] at h

set_option maxHeartbeats 1000000 in
theorem live_any (w : World) : Calls Try.prog 11 #[] w fun e w' => e = .returned (.bool true) ∧ Below w.heap.size w w' := by
  go_enter Try.func11, Try.ntmps11
  go_wp2_with fail
  refine (of_c1 _).mono ?_
  rintro e w1 ⟨rfl, hb1⟩
  have l1 := hb1.size
  go_wp2_with fail
  refine (add_c1 _).mono ?_
  rintro e w2 ⟨rfl, hb2⟩
  have g2 : Below w.heap.size w w2 := upon (by go_grown) hb2
  have l2 := g2.size
  have c20 := old hb2 (b := w1.heap.size) (o := 0) (v := .int .i64 (-1)) (by simp [go_sem]) (by simp)
  have c21 := old hb2 (b := w1.heap.size) (o := 1) (v := .int .i64 2) (by simp [go_sem]) (by simp)
  have z2 := oldlt hb2 (b := w1.heap.size) (by simp)
  go_wp2_with fail
  refine (of_c2 _).mono ?_
  rintro e w3 ⟨rfl, hb3⟩
  have g3 : Below w.heap.size w w3 := upon (by go_grown) hb3
  have l3 := g3.size
  have c30 := old hb3 (b := w1.heap.size) (o := 0) (v := .int .i64 (-1)) (by simp [go_sem, c20, z2]) (by simp; omega)
  have c31 := old hb3 (b := w1.heap.size) (o := 1) (v := .int .i64 2) (by simp [go_sem, c21, z2]) (by simp; omega)
  have z3 := oldlt hb3 (b := w1.heap.size) (by simp; omega)
  have c32 := old hb3 (b := w2.heap.size) (o := 0) (v := .int .i64 5) (by simp [go_sem]) (by simp)
  have c33 := old hb3 (b := w2.heap.size) (o := 1) (v := .int .i64 6) (by simp [go_sem]) (by simp)
  have y3 := oldlt hb3 (b := w2.heap.size) (by simp)
  clear c20 c21 z2
  go_wp2_with fail
  refine (cmp_c1 _).mono ?_
  rintro e w4 ⟨rfl, hb4⟩
  have g4 : Below w.heap.size w w4 := upon (by go_grown) hb4
  go_wp2
  go_ret
  exact ⟨rfl, g4⟩

set_option maxHeartbeats 400000 in
theorem lmay_any (n d : Int) (w : World) (h1 : -9223372036854775808 ≤ n) (h2 : n ≤ 9223372036854775807) (g1 : -9223372036854775808 ≤ d) (g2 : d ≤ 9223372036854775807) :
    Calls Try.prog 24 #[.agg #[.int .i64 n, .int .i64 d]] w fun e w' => e = .returned (.bool (mayB n d)) ∧ Below w.heap.size w w' := by
  by_cases a1 : oE n d = 0
  · go_enter Try.func24, Try.ntmps24
    go_wp2_with (first
      | (go_at_call 9; refine (of_all _ _ _ h1 h2 g1 g2).mono ?_; rintro e w1 ⟨rfl, hb⟩; obtain ⟨hc, hf, hz, hB⟩ := bf (w := w) (by go_grown) hb; simp only [World.size_alloc] at hz; have z0 : w.heap.size < w1.heap.size := by omega))
    all_goals
      go_ret
      exact ⟨by simp [mayB, *], by go_grown⟩
  · have a2 : (oE n d == 0) = false := by simpa using a1
    go_enter Try.func24, Try.ntmps24
    go_wp2_with (first
      | (go_at_call 9; refine (of_all _ _ _ h1 h2 g1 g2).mono ?_; rintro e w1 ⟨rfl, hb⟩; obtain ⟨hc, hf, hz, hB⟩ := bf (w := w) (by go_grown) hb; simp only [World.size_alloc] at hz; have z0 : w.heap.size < w1.heap.size := by omega))
    all_goals
      go_ret
      exact ⟨by simp [mayB, a2], by go_grown⟩

end Go.Proofs.Yteibabmdconibaa
