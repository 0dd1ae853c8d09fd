/- The law RatOrder of package custoslaw01 returns true for any three fractions: being less goes on from one to the next, is the sign of the difference, and stays behind adding the same. No condition. -/
import Derived.Test.YtchfnmafladciabOrderCore
import Derived.Test.YtchfnmafladciabGlue
import Derived.ProofKit
import Derived.OpenShut
import Derived.Lib.SmallJoins
namespace Go.Proofs.Ytchfnmafladciab.ratOrder
open Go.ChangeShapes Go.WideShapes Go.ChangeAt Go.RowKit Go.Joins Go.Shelf
set_option linter.unusedVariables false

set_option maxHeartbeats 1000000 in
theorem early (A B C D U V AB : Int) (w : World) (p1 p2 p3 : Bool) (c1 : Hid (∀ w, Calls Try.prog 4 #[.agg #[.int .i64 A, .int .i64 B], .agg #[.int .i64 C, .int .i64 D]] w fun e w' => e = .returned (.int .i64 AB) ∧ Below w.heap.size w w')) (m1 : Hid (∀ w, Calls Try.prog 5 #[.agg #[.int .i64 A, .int .i64 B]] w fun e w' => e = .returned (.bool p1) ∧ Below w.heap.size w w')) (m2 : Hid (∀ w, Calls Try.prog 5 #[.agg #[.int .i64 C, .int .i64 D]] w fun e w' => e = .returned (.bool p2) ∧ Below w.heap.size w w')) (m3 : Hid (∀ w, Calls Try.prog 5 #[.agg #[.int .i64 U, .int .i64 V]] w fun e w' => e = .returned (.bool p3) ∧ Below w.heap.size w w')) (hp : p1 = false ∨ p1 = true ∧ p2 = false ∨ p1 = true ∧ p2 = true ∧ p3 = false) :
    Calls Try.prog 3 #[.agg #[.int .i64 A, .int .i64 B], .agg #[.int .i64 C, .int .i64 D], .agg #[.int .i64 U, .int .i64 V]] w fun e w' => e = .returned (.bool true) ∧ Below w.heap.size w w' := by
  rcases hp with rfl | ⟨rfl, rfl⟩ | ⟨rfl, rfl, rfl⟩
  · go_enter Try.func3, Try.ntmps3
    go_wp2_with fail
    refine (c1.out _).mono ?_
    rintro e w1 ⟨rfl, hb1⟩
    have g1 : Below w.heap.size w w1 := upon (by go_grown) hb1
    have l1 := g1.size
    have ca1_0 := old hb1 (b := w.heap.size) (o := 0) (v := .int .i64 A) (by simp [go_sem]) (by go_size)
    have ca1_1 := old hb1 (b := w.heap.size) (o := 1) (v := .int .i64 B) (by simp [go_sem]) (by go_size)
    have za1 := oldlt hb1 (b := w.heap.size) (by go_size)
    have cb1_0 := old hb1 (b := w.heap.size + 1) (o := 0) (v := .int .i64 C) (by simp [go_sem]) (by go_size)
    have cb1_1 := old hb1 (b := w.heap.size + 1) (o := 1) (v := .int .i64 D) (by simp [go_sem]) (by go_size)
    have zb1 := oldlt hb1 (b := w.heap.size + 1) (by go_size)
    have cc1_0 := old hb1 (b := w.heap.size + 1 + 1) (o := 0) (v := .int .i64 U) (by simp [go_sem]) (by go_size)
    have cc1_1 := old hb1 (b := w.heap.size + 1 + 1) (o := 1) (v := .int .i64 V) (by simp [go_sem]) (by go_size)
    have zc1 := oldlt hb1 (b := w.heap.size + 1 + 1) (by go_size)
    go_wp2_with fail
    refine (m1.out _).mono ?_
    rintro e w2 ⟨rfl, hb2⟩
    have g2 : Below w.heap.size w w2 := upon (by go_grown) hb2
    have l2 := g2.size
    have ca2_0 := old hb2 (b := w.heap.size) (o := 0) (v := .int .i64 A) (by first | (with_reducible exact ca1_0) | simp [go_sem, ca1_0, za1]) (by go_size)
    have ca2_1 := old hb2 (b := w.heap.size) (o := 1) (v := .int .i64 B) (by first | (with_reducible exact ca1_1) | simp [go_sem, ca1_1, za1]) (by go_size)
    have za2 := oldlt hb2 (b := w.heap.size) (by go_size)
    have cb2_0 := old hb2 (b := w.heap.size + 1) (o := 0) (v := .int .i64 C) (by first | (with_reducible exact cb1_0) | simp [go_sem, cb1_0, zb1]) (by go_size)
    have cb2_1 := old hb2 (b := w.heap.size + 1) (o := 1) (v := .int .i64 D) (by first | (with_reducible exact cb1_1) | simp [go_sem, cb1_1, zb1]) (by go_size)
    have zb2 := oldlt hb2 (b := w.heap.size + 1) (by go_size)
    have cc2_0 := old hb2 (b := w.heap.size + 1 + 1) (o := 0) (v := .int .i64 U) (by first | (with_reducible exact cc1_0) | simp [go_sem, cc1_0, zc1]) (by go_size)
    have cc2_1 := old hb2 (b := w.heap.size + 1 + 1) (o := 1) (v := .int .i64 V) (by first | (with_reducible exact cc1_1) | simp [go_sem, cc1_1, zc1]) (by go_size)
    have zc2 := oldlt hb2 (b := w.heap.size + 1 + 1) (by go_size)
    clear ca1_0 ca1_1 za1 cb1_0 cb1_1 zb1 cc1_0 cc1_1 zc1
    go_wp2_with fail
    refine (live_any _).mono ?_
    rintro e w3 ⟨rfl, hb3⟩
    have g3 : Below w.heap.size w w3 := upon (by go_grown) hb3
    have l3 := g3.size
    clear ca2_0 ca2_1 za2 cb2_0 cb2_1 zb2 cc2_0 cc2_1 zc2
    go_wp2
    go_ret
    exact ⟨rfl, g3⟩
  · go_enter Try.func3, Try.ntmps3
    go_wp2_with fail
    refine (c1.out _).mono ?_
    rintro e w1 ⟨rfl, hb1⟩
    have g1 : Below w.heap.size w w1 := upon (by go_grown) hb1
    have l1 := g1.size
    have ca1_0 := old hb1 (b := w.heap.size) (o := 0) (v := .int .i64 A) (by simp [go_sem]) (by go_size)
    have ca1_1 := old hb1 (b := w.heap.size) (o := 1) (v := .int .i64 B) (by simp [go_sem]) (by go_size)
    have za1 := oldlt hb1 (b := w.heap.size) (by go_size)
    have cb1_0 := old hb1 (b := w.heap.size + 1) (o := 0) (v := .int .i64 C) (by simp [go_sem]) (by go_size)
    have cb1_1 := old hb1 (b := w.heap.size + 1) (o := 1) (v := .int .i64 D) (by simp [go_sem]) (by go_size)
    have zb1 := oldlt hb1 (b := w.heap.size + 1) (by go_size)
    have cc1_0 := old hb1 (b := w.heap.size + 1 + 1) (o := 0) (v := .int .i64 U) (by simp [go_sem]) (by go_size)
    have cc1_1 := old hb1 (b := w.heap.size + 1 + 1) (o := 1) (v := .int .i64 V) (by simp [go_sem]) (by go_size)
    have zc1 := oldlt hb1 (b := w.heap.size + 1 + 1) (by go_size)
    go_wp2_with fail
    refine (m1.out _).mono ?_
    rintro e w2 ⟨rfl, hb2⟩
    have g2 : Below w.heap.size w w2 := upon (by go_grown) hb2
    have l2 := g2.size
    have ca2_0 := old hb2 (b := w.heap.size) (o := 0) (v := .int .i64 A) (by first | (with_reducible exact ca1_0) | simp [go_sem, ca1_0, za1]) (by go_size)
    have ca2_1 := old hb2 (b := w.heap.size) (o := 1) (v := .int .i64 B) (by first | (with_reducible exact ca1_1) | simp [go_sem, ca1_1, za1]) (by go_size)
    have za2 := oldlt hb2 (b := w.heap.size) (by go_size)
    have cb2_0 := old hb2 (b := w.heap.size + 1) (o := 0) (v := .int .i64 C) (by first | (with_reducible exact cb1_0) | simp [go_sem, cb1_0, zb1]) (by go_size)
    have cb2_1 := old hb2 (b := w.heap.size + 1) (o := 1) (v := .int .i64 D) (by first | (with_reducible exact cb1_1) | simp [go_sem, cb1_1, zb1]) (by go_size)
    have zb2 := oldlt hb2 (b := w.heap.size + 1) (by go_size)
    have cc2_0 := old hb2 (b := w.heap.size + 1 + 1) (o := 0) (v := .int .i64 U) (by first | (with_reducible exact cc1_0) | simp [go_sem, cc1_0, zc1]) (by go_size)
    have cc2_1 := old hb2 (b := w.heap.size + 1 + 1) (o := 1) (v := .int .i64 V) (by first | (with_reducible exact cc1_1) | simp [go_sem, cc1_1, zc1]) (by go_size)
    have zc2 := oldlt hb2 (b := w.heap.size + 1 + 1) (by go_size)
    clear ca1_0 ca1_1 za1 cb1_0 cb1_1 zb1 cc1_0 cc1_1 zc1
    go_wp2_with fail
    refine (m2.out _).mono ?_
    rintro e w3 ⟨rfl, hb3⟩
    have g3 : Below w.heap.size w w3 := upon (by go_grown) hb3
    have l3 := g3.size
    have ca3_0 := old hb3 (b := w.heap.size) (o := 0) (v := .int .i64 A) (by first | (with_reducible exact ca2_0) | simp [go_sem, ca2_0, za2]) (by go_size)
    have ca3_1 := old hb3 (b := w.heap.size) (o := 1) (v := .int .i64 B) (by first | (with_reducible exact ca2_1) | simp [go_sem, ca2_1, za2]) (by go_size)
    have za3 := oldlt hb3 (b := w.heap.size) (by go_size)
    have cb3_0 := old hb3 (b := w.heap.size + 1) (o := 0) (v := .int .i64 C) (by first | (with_reducible exact cb2_0) | simp [go_sem, cb2_0, zb2]) (by go_size)
    have cb3_1 := old hb3 (b := w.heap.size + 1) (o := 1) (v := .int .i64 D) (by first | (with_reducible exact cb2_1) | simp [go_sem, cb2_1, zb2]) (by go_size)
    have zb3 := oldlt hb3 (b := w.heap.size + 1) (by go_size)
    have cc3_0 := old hb3 (b := w.heap.size + 1 + 1) (o := 0) (v := .int .i64 U) (by first | (with_reducible exact cc2_0) | simp [go_sem, cc2_0, zc2]) (by go_size)
    have cc3_1 := old hb3 (b := w.heap.size + 1 + 1) (o := 1) (v := .int .i64 V) (by first | (with_reducible exact cc2_1) | simp [go_sem, cc2_1, zc2]) (by go_size)
    have zc3 := oldlt hb3 (b := w.heap.size + 1 + 1) (by go_size)
    clear ca2_0 ca2_1 za2 cb2_0 cb2_1 zb2 cc2_0 cc2_1 zc2
    go_wp2_with fail
    refine (live_any _).mono ?_
    rintro e w4 ⟨rfl, hb4⟩
    have g4 : Below w.heap.size w w4 := upon (by go_grown) hb4
    have l4 := g4.size
    clear ca3_0 ca3_1 za3 cb3_0 cb3_1 zb3 cc3_0 cc3_1 zc3
    go_wp2
    go_ret
    exact ⟨rfl, g4⟩
  · go_enter Try.func3, Try.ntmps3
    go_wp2_with fail
    refine (c1.out _).mono ?_
    rintro e w1 ⟨rfl, hb1⟩
    have g1 : Below w.heap.size w w1 := upon (by go_grown) hb1
    have l1 := g1.size
    have ca1_0 := old hb1 (b := w.heap.size) (o := 0) (v := .int .i64 A) (by simp [go_sem]) (by go_size)
    have ca1_1 := old hb1 (b := w.heap.size) (o := 1) (v := .int .i64 B) (by simp [go_sem]) (by go_size)
    have za1 := oldlt hb1 (b := w.heap.size) (by go_size)
    have cb1_0 := old hb1 (b := w.heap.size + 1) (o := 0) (v := .int .i64 C) (by simp [go_sem]) (by go_size)
    have cb1_1 := old hb1 (b := w.heap.size + 1) (o := 1) (v := .int .i64 D) (by simp [go_sem]) (by go_size)
    have zb1 := oldlt hb1 (b := w.heap.size + 1) (by go_size)
    have cc1_0 := old hb1 (b := w.heap.size + 1 + 1) (o := 0) (v := .int .i64 U) (by simp [go_sem]) (by go_size)
    have cc1_1 := old hb1 (b := w.heap.size + 1 + 1) (o := 1) (v := .int .i64 V) (by simp [go_sem]) (by go_size)
    have zc1 := oldlt hb1 (b := w.heap.size + 1 + 1) (by go_size)
    go_wp2_with fail
    refine (m1.out _).mono ?_
    rintro e w2 ⟨rfl, hb2⟩
    have g2 : Below w.heap.size w w2 := upon (by go_grown) hb2
    have l2 := g2.size
    have ca2_0 := old hb2 (b := w.heap.size) (o := 0) (v := .int .i64 A) (by first | (with_reducible exact ca1_0) | simp [go_sem, ca1_0, za1]) (by go_size)
    have ca2_1 := old hb2 (b := w.heap.size) (o := 1) (v := .int .i64 B) (by first | (with_reducible exact ca1_1) | simp [go_sem, ca1_1, za1]) (by go_size)
    have za2 := oldlt hb2 (b := w.heap.size) (by go_size)
    have cb2_0 := old hb2 (b := w.heap.size + 1) (o := 0) (v := .int .i64 C) (by first | (with_reducible exact cb1_0) | simp [go_sem, cb1_0, zb1]) (by go_size)
    have cb2_1 := old hb2 (b := w.heap.size + 1) (o := 1) (v := .int .i64 D) (by first | (with_reducible exact cb1_1) | simp [go_sem, cb1_1, zb1]) (by go_size)
    have zb2 := oldlt hb2 (b := w.heap.size + 1) (by go_size)
    have cc2_0 := old hb2 (b := w.heap.size + 1 + 1) (o := 0) (v := .int .i64 U) (by first | (with_reducible exact cc1_0) | simp [go_sem, cc1_0, zc1]) (by go_size)
    have cc2_1 := old hb2 (b := w.heap.size + 1 + 1) (o := 1) (v := .int .i64 V) (by first | (with_reducible exact cc1_1) | simp [go_sem, cc1_1, zc1]) (by go_size)
    have zc2 := oldlt hb2 (b := w.heap.size + 1 + 1) (by go_size)
    clear ca1_0 ca1_1 za1 cb1_0 cb1_1 zb1 cc1_0 cc1_1 zc1
    go_wp2_with fail
    refine (m2.out _).mono ?_
    rintro e w3 ⟨rfl, hb3⟩
    have g3 : Below w.heap.size w w3 := upon (by go_grown) hb3
    have l3 := g3.size
    have ca3_0 := old hb3 (b := w.heap.size) (o := 0) (v := .int .i64 A) (by first | (with_reducible exact ca2_0) | simp [go_sem, ca2_0, za2]) (by go_size)
    have ca3_1 := old hb3 (b := w.heap.size) (o := 1) (v := .int .i64 B) (by first | (with_reducible exact ca2_1) | simp [go_sem, ca2_1, za2]) (by go_size)
    have za3 := oldlt hb3 (b := w.heap.size) (by go_size)
    have cb3_0 := old hb3 (b := w.heap.size + 1) (o := 0) (v := .int .i64 C) (by first | (with_reducible exact cb2_0) | simp [go_sem, cb2_0, zb2]) (by go_size)
    have cb3_1 := old hb3 (b := w.heap.size + 1) (o := 1) (v := .int .i64 D) (by first | (with_reducible exact cb2_1) | simp [go_sem, cb2_1, zb2]) (by go_size)
    have zb3 := oldlt hb3 (b := w.heap.size + 1) (by go_size)
    have cc3_0 := old hb3 (b := w.heap.size + 1 + 1) (o := 0) (v := .int .i64 U) (by first | (with_reducible exact cc2_0) | simp [go_sem, cc2_0, zc2]) (by go_size)
    have cc3_1 := old hb3 (b := w.heap.size + 1 + 1) (o := 1) (v := .int .i64 V) (by first | (with_reducible exact cc2_1) | simp [go_sem, cc2_1, zc2]) (by go_size)
    have zc3 := oldlt hb3 (b := w.heap.size + 1 + 1) (by go_size)
    clear ca2_0 ca2_1 za2 cb2_0 cb2_1 zb2 cc2_0 cc2_1 zc2
    go_wp2_with fail
    refine (m3.out _).mono ?_
    rintro e w4 ⟨rfl, hb4⟩
    have g4 : Below w.heap.size w w4 := upon (by go_grown) hb4
    have l4 := g4.size
    have ca4_0 := old hb4 (b := w.heap.size) (o := 0) (v := .int .i64 A) (by first | (with_reducible exact ca3_0) | simp [go_sem, ca3_0, za3]) (by go_size)
    have ca4_1 := old hb4 (b := w.heap.size) (o := 1) (v := .int .i64 B) (by first | (with_reducible exact ca3_1) | simp [go_sem, ca3_1, za3]) (by go_size)
    have za4 := oldlt hb4 (b := w.heap.size) (by go_size)
    have cb4_0 := old hb4 (b := w.heap.size + 1) (o := 0) (v := .int .i64 C) (by first | (with_reducible exact cb3_0) | simp [go_sem, cb3_0, zb3]) (by go_size)
    have cb4_1 := old hb4 (b := w.heap.size + 1) (o := 1) (v := .int .i64 D) (by first | (with_reducible exact cb3_1) | simp [go_sem, cb3_1, zb3]) (by go_size)
    have zb4 := oldlt hb4 (b := w.heap.size + 1) (by go_size)
    have cc4_0 := old hb4 (b := w.heap.size + 1 + 1) (o := 0) (v := .int .i64 U) (by first | (with_reducible exact cc3_0) | simp [go_sem, cc3_0, zc3]) (by go_size)
    have cc4_1 := old hb4 (b := w.heap.size + 1 + 1) (o := 1) (v := .int .i64 V) (by first | (with_reducible exact cc3_1) | simp [go_sem, cc3_1, zc3]) (by go_size)
    have zc4 := oldlt hb4 (b := w.heap.size + 1 + 1) (by go_size)
    clear ca3_0 ca3_1 za3 cb3_0 cb3_1 zb3 cc3_0 cc3_1 zc3
    go_wp2_with fail
    refine (live_any _).mono ?_
    rintro e w5 ⟨rfl, hb5⟩
    have g5 : Below w.heap.size w w5 := upon (by go_grown) hb5
    have l5 := g5.size
    clear ca4_0 ca4_1 za4 cb4_0 cb4_1 zb4 cc4_0 cc4_1 zc4
    go_wp2
    go_ret
    exact ⟨rfl, g5⟩

theorem cmp_yes {a b c d : Int} (h1 : mayB a b = true) (h2 : mayB c d = true) : cmpV a b c d = if a * d < c * b then -1 else if c * b < a * d then 1 else 0 := by simp [cmpV, both, h1, h2]
theorem cmp_cases {a b c d : Int} (h1 : mayB a b = true) (h2 : mayB c d = true) : (cmpV a b c d = -1 ∧ a * d < c * b) ∨ (cmpV a b c d = 0 ∧ a * d = c * b) ∨ (cmpV a b c d = 1 ∧ c * b < a * d) := by
  rw [cmp_yes h1 h2]
  by_cases h3 : a * d < c * b
  · exact Or.inl ⟨if_pos h3, h3⟩
  · rw [if_neg h3]
    by_cases h4 : c * b < a * d
    · exact Or.inr (Or.inr ⟨if_pos h4, h4⟩)
    · exact Or.inr (Or.inl ⟨if_neg h4, by omega⟩)

/-- Of three fractions: multiplied by all three denominators their order is the numbers'. -/
theorem scale_lt {a b c d k : Int} (hk : 0 < k) : a * d < c * b ↔ a * d * k < c * b * k := ⟨fun h => Int.mul_lt_mul_of_pos_right h hk, fun h => Int.lt_of_mul_lt_mul_right h (Int.le_of_lt hk)⟩

theorem on_law {a b c d u v : Int} (h1 : mayB a b = true) (h2 : mayB c d = true) (h3 : mayB u v = true) (hab : cmpV a b c d ≤ 0) (hbc : cmpV c d u v ≤ 0) :
    cmpV a b u v ≤ 0 ∧ ((cmpV a b c d = 0 ∧ cmpV c d u v = 0) ↔ cmpV a b u v = 0) := by
  obtain ⟨pb, _⟩ := may_of h1
  obtain ⟨pd, _⟩ := may_of h2
  obtain ⟨pv, _⟩ := may_of h3
  have k1 : a * d ≤ c * b := by rcases cmp_cases h1 h2 with ⟨e, h⟩ | ⟨e, h⟩ | ⟨e, h⟩ <;> omega
  have k2 : c * v ≤ u * d := by rcases cmp_cases h2 h3 with ⟨e, h⟩ | ⟨e, h⟩ | ⟨e, h⟩ <;> omega
  have l1 := Int.mul_le_mul_of_nonneg_right k1 (Int.le_of_lt pv)
  have l2 := Int.mul_le_mul_of_nonneg_right k2 (Int.le_of_lt pb)
  have e1 : c * b * v = c * v * b := by grind
  have e2 : a * d * v = a * v * d := by grind
  have e3 : u * d * b = u * b * d := by grind
  have k3 : a * v * d ≤ u * b * d := by omega
  have k4 : a * v ≤ u * b := Int.le_of_mul_le_mul_right k3 pd
  refine ⟨?_, ?_, ?_⟩
  · rcases cmp_cases h1 h3 with ⟨e, h⟩ | ⟨e, h⟩ | ⟨e, h⟩ <;> omega
  · rintro ⟨z1, z2⟩
    have m1 : a * d = c * b := by rcases cmp_cases h1 h2 with ⟨e, h⟩ | ⟨e, h⟩ | ⟨e, h⟩ <;> omega
    have m2 : c * v = u * d := by rcases cmp_cases h2 h3 with ⟨e, h⟩ | ⟨e, h⟩ | ⟨e, h⟩ <;> omega
    have m3 : a * v * d = u * b * d := by grind
    have m4 : a * v = u * b := Int.eq_of_mul_eq_mul_right (by omega) m3
    rcases cmp_cases h1 h3 with ⟨e, h⟩ | ⟨e, h⟩ | ⟨e, h⟩ <;> omega
  · intro z
    have m : a * v = u * b := by rcases cmp_cases h1 h3 with ⟨e, h⟩ | ⟨e, h⟩ | ⟨e, h⟩ <;> omega
    have m3 : a * v * d = u * b * d := by rw [m]
    have n1 : a * d * v = c * b * v := by omega
    have n2 : c * v * b = u * d * b := by omega
    have n3 : a * d = c * b := Int.eq_of_mul_eq_mul_right (by omega) n1
    have n4 : c * v = u * d := Int.eq_of_mul_eq_mul_right (by omega) n2
    constructor
    · rcases cmp_cases h1 h2 with ⟨e, h⟩ | ⟨e, h⟩ | ⟨e, h⟩ <;> omega
    · rcases cmp_cases h2 h3 with ⟨e, h⟩ | ⟨e, h⟩ | ⟨e, h⟩ <;> omega

theorem turn_law {a b c d : Int} (h1 : mayB a b = true) (h2 : mayB c d = true) : cmpV c d a b = -cmpV a b c d := by
  rcases cmp_cases h1 h2 with ⟨e, h⟩ | ⟨e, h⟩ | ⟨e, h⟩ <;> rcases cmp_cases h2 h1 with ⟨e', h'⟩ | ⟨e', h'⟩ | ⟨e', h'⟩ <;> omega

theorem sign_of {p q : Int} (hq : 0 < q) (h : rE p q = 0) : (0 < rN p q ↔ 0 < p) ∧ (rN p q < 0 ↔ p < 0) := by
  obtain ⟨v, m, _, _⟩ := r_val hq h
  obtain ⟨p3, _⟩ := may_of m
  generalize rN p q = N at *
  generalize rD p q = D at *
  refine ⟨⟨fun hN => ?_, fun hp => ?_⟩, ⟨fun hN => ?_, fun hp => ?_⟩⟩
  · have := Int.mul_pos hN hq; rw [v] at this; exact Int.pos_of_mul_pos_left this p3
  · have := Int.mul_pos hp p3; rw [← v] at this; exact Int.pos_of_mul_pos_left this hq
  · have := Int.mul_neg_of_neg_of_pos hN hq; rw [v] at this; exact Int.neg_of_mul_neg_left this p3
  · have := Int.mul_neg_of_neg_of_pos hp p3; rw [← v] at this; exact Int.neg_of_mul_neg_left this hq

theorem add_law {a b c d u v : Int} (h1 : mayB a b = true) (h2 : mayB c d = true) (h3 : mayB u v = true) (hf : rE (a * v + u * b) (b * v) = 0) (hg : rE (c * v + u * d) (d * v) = 0) :
    cmpV (rN (a * v + u * b) (b * v)) (rD (a * v + u * b) (b * v)) (rN (c * v + u * d) (d * v)) (rD (c * v + u * d) (d * v)) = cmpV a b c d := by
  obtain ⟨pb, _⟩ := may_of h1
  obtain ⟨pd, _⟩ := may_of h2
  obtain ⟨pv, _⟩ := may_of h3
  obtain ⟨v1, m1, _, _⟩ := r_val (Int.mul_pos pb pv) hf
  obtain ⟨v2, m2, _, _⟩ := r_val (Int.mul_pos pd pv) hg
  obtain ⟨q1, _⟩ := may_of m1
  obtain ⟨q2, _⟩ := may_of m2
  generalize rN (a * v + u * b) (b * v) = X at *
  generalize rD (a * v + u * b) (b * v) = Y at *
  generalize rN (c * v + u * d) (d * v) = Z at *
  generalize rD (c * v + u * d) (d * v) = T at *
  have key : (X * T - Z * Y) * (b * v) * (d * v) = (a * d - c * b) * (v * v * Y * T) := by
    have e1 : (X * T - Z * Y) * (b * v) * (d * v) = (X * (b * v)) * T * (d * v) - (Z * (d * v)) * Y * (b * v) := by grind
    rw [e1, v1, v2]; grind
  have kp : 0 < (b * v) * (d * v) := Int.mul_pos (Int.mul_pos pb pv) (Int.mul_pos pd pv)
  have kq : 0 < v * v * Y * T := Int.mul_pos (Int.mul_pos (Int.mul_pos pv pv) q1) q2
  rw [Int.mul_assoc] at key
  generalize (b * v) * (d * v) = P at *
  generalize v * v * Y * T = Q at *
  have s1 : X * T < Z * Y ↔ a * d < c * b := by
    constructor
    · intro h
      have : (X * T - Z * Y) * P < 0 := Int.mul_neg_of_neg_of_pos (by omega) kp
      rw [key] at this
      have := Int.neg_of_mul_neg_left this kq
      omega
    · intro h
      have : (a * d - c * b) * Q < 0 := Int.mul_neg_of_neg_of_pos (by omega) kq
      rw [← key] at this
      have := Int.neg_of_mul_neg_left this kp
      omega
  have s2 : Z * Y < X * T ↔ c * b < a * d := by
    constructor
    · intro h
      have : 0 < (X * T - Z * Y) * P := Int.mul_pos (by omega) kp
      rw [key] at this
      have := Int.pos_of_mul_pos_left this kq
      omega
    · intro h
      have : 0 < (a * d - c * b) * Q := Int.mul_pos (by omega) kq
      rw [← key] at this
      have := Int.pos_of_mul_pos_left this kp
      omega
  rw [cmp_yes m1 m2, cmp_yes h1 h2]
  simp only [s1, s2]


theorem walk (x0 x1 x2 x3 x4 x5 : Int) (a0 : -9223372036854775808 ≤ x0) (b0 : x0 ≤ 9223372036854775807) (a1 : -9223372036854775808 ≤ x1) (b1 : x1 ≤ 9223372036854775807) (a2 : -9223372036854775808 ≤ x2) (b2 : x2 ≤ 9223372036854775807) (a3 : -9223372036854775808 ≤ x3) (b3 : x3 ≤ 9223372036854775807) (a4 : -9223372036854775808 ≤ x4) (b4 : x4 ≤ 9223372036854775807) (a5 : -9223372036854775808 ≤ x5) (b5 : x5 ≤ 9223372036854775807) (w : World) :
    Calls Try.prog 3 #[.agg #[.int .i64 x0, .int .i64 x1], .agg #[.int .i64 x2, .int .i64 x3], .agg #[.int .i64 x4, .int .i64 x5]] w fun e w' => e = .returned (.bool true) ∧ Below w.heap.size w w' := by
  have c1 := fun w => cmp_all x0 x1 x2 x3 w a0 b0 a1 b1 a2 b2 a3 b3
  have m1 := fun w => lmay_any x0 x1 w a0 b0 a1 b1
  have m2 := fun w => lmay_any x2 x3 w a2 b2 a3 b3
  have m3 := fun w => lmay_any x4 x5 w a4 b4 a5 b5
  cases h1 : mayB x0 x1
  · exact early _ _ _ _ _ _ _ w _ _ _ c1 m1 m2 m3 (Or.inl h1)
  cases h2 : mayB x2 x3
  · exact early _ _ _ _ _ _ _ w _ _ _ c1 m1 m2 m3 (Or.inr (Or.inl ⟨h1, h2⟩))
  cases h3 : mayB x4 x5
  · exact early _ _ _ _ _ _ _ w _ _ _ c1 m1 m2 m3 (Or.inr (Or.inr ⟨h1, h2, h3⟩))
  rw [h1] at m1
  rw [h2] at m2
  rw [h3] at m3
  obtain ⟨p1, _⟩ := may_of h1
  obtain ⟨p2, _⟩ := may_of h2
  obtain ⟨p3, _⟩ := may_of h3
  have c2 := fun w => cmp_all x2 x3 x4 x5 w a2 b2 a3 b3 a4 b4 a5 b5
  have c3 := fun w => cmp_all x0 x1 x4 x5 w a0 b0 a1 b1 a4 b4 a5 b5
  have c4 := fun w => cmp_all x2 x3 x0 x1 w a2 b2 a3 b3 a0 b0 a1 b1
  rw [turn_law h1 h2] at c4
  have ss := fun w => sub_all x0 x1 x2 x3 w a0 b0 a1 b1 a2 b2 a3 b3
  have fa := fun w => add_all x0 x1 x4 x5 w a0 b0 a1 b1 a4 b4 a5 b5
  have fb := fun w => add_all x2 x3 x4 x5 w a2 b2 a3 b3 a4 b4 a5 b5
  obtain ⟨y1, y2, y3⟩ := t_yes h1 h2 (x0 * x3 - x2 * x1) (x1 * x3)
  obtain ⟨y4, y5, y6⟩ := t_yes h1 h3 (x0 * x5 + x4 * x1) (x1 * x5)
  obtain ⟨y7, y8, y9⟩ := t_yes h2 h3 (x2 * x5 + x4 * x3) (x3 * x5)
  rw [y1, y2, y3] at ss
  rw [y4, y5, y6] at fa
  rw [y7, y8, y9] at fb
  have kk : rE (x0 * x5 + x4 * x1) (x1 * x5) = 0 → rE (x2 * x5 + x4 * x3) (x3 * x5) = 0 → ∀ w, Calls Try.prog 4 #[.agg #[.int .i64 (rN (x0 * x5 + x4 * x1) (x1 * x5)), .int .i64 (rD (x0 * x5 + x4 * x1) (x1 * x5))], .agg #[.int .i64 (rN (x2 * x5 + x4 * x3) (x3 * x5)), .int .i64 (rD (x2 * x5 + x4 * x3) (x3 * x5))]] w fun e w' => e = .returned (.int .i64 (cmpV x0 x1 x2 x3)) ∧ Below w.heap.size w w' := by
    intro hf hg w
    obtain ⟨_, _, r1, r2⟩ := r_val (Int.mul_pos p1 p3) hf
    obtain ⟨_, _, r3, r4⟩ := r_val (Int.mul_pos p2 p3) hg
    have h := cmp_all _ _ _ _ w r1.1 r1.2 r2.1 r2.2 r3.1 r3.2 r4.1 r4.2
    rwa [add_law h1 h2 h3 hf hg] at h
  have hon := on_law h1 h2 h3
  have hsg : rE (x0 * x3 - x2 * x1) (x1 * x3) = 0 → (0 < rN (x0 * x3 - x2 * x1) (x1 * x3) ↔ 0 < cmpV x0 x1 x2 x3) ∧ (rN (x0 * x3 - x2 * x1) (x1 * x3) < 0 ↔ cmpV x0 x1 x2 x3 < 0) := by
    intro h
    obtain ⟨s1, s2⟩ := sign_of (Int.mul_pos p1 p2) h
    rw [s1, s2]
    rcases cmp_cases h1 h2 with ⟨e, h⟩ | ⟨e, h⟩ | ⟨e, h⟩ <;> rw [e] <;> omega
  by_cases hs : x0 = x2 ∧ x1 = x3
  · obtain ⟨rfl, rfl⟩ := hs
    have e0 : cmpV x0 x1 x0 x1 = 0 := by rcases cmp_cases h1 h1 with ⟨e, h⟩ | ⟨e, h⟩ | ⟨e, h⟩ <;> omega
    rw [e0] at c1 c4 kk hon hsg
    refine coreC _ _ _ _ _ _ _ _ _ _ _ _ _ _ _ w c1 m1 m2 m3 c2 c3 c4 ss fa fb kk ?_ ?_
    · intro hbc
      obtain ⟨k1, k2⟩ := hon (by omega) hbc
      exact ⟨k1, ⟨fun h => k2.1 ⟨rfl, h⟩, fun h => (k2.2 h).2⟩⟩
    · intro h
      obtain ⟨k1, k2⟩ := hsg h
      exact ⟨fun h => absurd (k1.1 h) (by omega), fun h => absurd (k2.1 h) (by omega)⟩
  · have b1' : -1 ≤ cmpV x0 x1 x2 x3 := by rcases cmp_cases h1 h2 with ⟨e, h⟩ | ⟨e, h⟩ | ⟨e, h⟩ <;> omega
    have b2' : cmpV x0 x1 x2 x3 ≤ 1 := by rcases cmp_cases h1 h2 with ⟨e, h⟩ | ⟨e, h⟩ | ⟨e, h⟩ <;> omega
    have n0 : cmpV x0 x1 x2 x3 ≠ 0 := by
      intro hz
      rcases cmp_cases h1 h2 with ⟨e, h⟩ | ⟨e, h⟩ | ⟨e, h⟩
      · omega
      · exact hs (may_unique h1 h2 h)
      · omega
    by_cases hac : x0 = x2
    · exact coreB _ _ _ _ _ _ _ _ _ _ _ _ _ _ _ _ _ _ w c1 m1 m2 m3 c2 c3 c4 ss fa fb kk hon hsg b1' b2' (by simpa using n0) (by simpa using hac) (by simp; exact fun h => hs ⟨hac, h⟩)
    · exact coreA _ _ _ _ _ _ _ _ _ _ _ _ _ _ _ _ _ _ w c1 m1 m2 m3 c2 c3 c4 ss fa fb kk hon hsg b1' b2' (by simpa using n0) (by simpa using hac)

theorem cells_23 : Try.prog.cellsOf 23 = 2 := by kernel_rfl

theorem own : ownKnob Try.prog.godebug = none := by kernel_rfl

/-- The row's end, where nothing that was there has turned and nothing is asked again. -/
theorem post_new {H : Type} {enc : TypeId × Value → H} {P : Program} {f : Func} {s : ChangeSpec} {apart fresh handsOn : Bool} {W W' : World} {args : Array Value} {v : Value} {ds gs : List (DataW H)} {before pa pv : List MemPlace}
    (hW : DataW.Whole enc P f.params.toList s.vars apart W args.toList ds gs before)
    (hres : ∀ (b : Nat) (sp : Nat → Bool) (hd : Bool), DataW.TrodAll enc P W' b sp hd f.resultTypes.toList (v.resultList f.resultTypes.size) (s.fn H (ds ++ gs)).results [])
    (hargs : ∀ sp : Nat → Bool, DataW.TrodAll enc P W' 0 sp true f.params.toList args.toList (s.fn H (ds ++ gs)).args pa)
    (hvars : ∀ sp : Nat → Bool, DataW.TrodVars enc P W' sp s.vars (s.fn H (ds ++ gs)).vars pv)
    (hps : before = pa ++ pv) (hk : W.keptBut W' (· ∈ before)) : s.post enc P f apart fresh handsOn false W args v W' :=
  ⟨ds, gs, before, [], pa, pv, hW, hres _ _ _, hargs _, hvars _, World.keptBut_mono (fun _ hp => ⟨hp, Or.inr (List.mem_append.1 (hps ▸ hp))⟩) hk, fun h => Bool.noConfusion h⟩

theorem bds {x : Int} (h : (Lit.int .i64 x).wf = true) : -9223372036854775808 ≤ x ∧ x ≤ 9223372036854775807 := by
  simp [Lit.wf, IntKind.min, IntKind.max, IntKind.signed, IntKind.bits] at h
  omega

set_option maxRecDepth 100000 in
theorem lifted (os : Os) (started : os.Started) (H : Type) (enc : TypeId × Value → H) :
    ReturnsInHanded {} Try.checked os 3 .any (Rows.ratOrderSpec.pre6 enc Try.prog Try.f3 Rows.ratOrderRow.domain false) (Rows.ratOrderSpec.post enc Try.prog Try.f3 false true false false) := by
  refine returnsInHanded_of_change (C := Try.checked) own started (by kernel_rfl) Try.func3
    (ChangeSpec.witness6 (enc := enc) (C := Try.checked) false ⟨#[], #[.agg #[.int .i64 0, .int .i64 0], .agg #[.int .i64 0, .int .i64 0], .agg #[.int .i64 0, .int .i64 0]], []⟩ 8 (by kernel_rfl) (by kernel_rfl) (by kernel_rfl) (by kernel_rfl)) ?_
  intro W base args ds gs before hval0 hW hcnd _
  have hval : ∀ (j : Nat) t v, Try.f3.params[j]? = some t → args[j]? = some v → Value.okWide Try.prog W .any base t v := hval0
  have hW' := hW
  obtain ⟨p, q, hA0, hV, rfl, hfz, hnd⟩ := hW
  have hA : DataW.TrodAll enc Try.prog W 0 (fun _ => true) true Try.f3.params.toList args.toList ds p := hA0
  rw [Try.params3] at hA hval
  obtain ⟨v0, vs0, d0, ds0, p0, q0, hargs, rfl, rfl, h0, r0⟩ := trodAll_cons hA
  obtain ⟨v1, vs1, d1, ds1, p1, q1, rfl, rfl, rfl, h1, r1⟩ := trodAll_cons r0
  obtain ⟨v2, vs2, d2, ds2, p2, q2, rfl, rfl, rfl, h2, r2⟩ := trodAll_cons r1
  obtain ⟨rfl, rfl, rfl⟩ := trodAll_nil r2
  obtain rfl : args = #[v0, v1, v2] := by cases args; simp_all
  obtain ⟨rfl, rfl⟩ := trodVars_none hV
  obtain ⟨c0, c1, y0, y1, m0, rfl, rfl, rfl, hy0, hy1⟩ := open_agg2 Try.underlying23 (by kernel_rfl) (cells_23) (hval 0 23 v0 rfl rfl) h0
  obtain ⟨x0, e0, rfl, wx0⟩ := DataW.trod_int Try.underlying2 hy0
  obtain ⟨x1, e1, rfl, wx1⟩ := DataW.trod_int Try.underlying2 hy1
  simp at e0 e1
  subst e0 e1
  obtain ⟨c2, c3, y2, y3, m1, rfl, rfl, rfl, hy2, hy3⟩ := open_agg2 Try.underlying23 (by kernel_rfl) (cells_23) (hval 1 23 v1 rfl rfl) h1
  obtain ⟨x2, e2, rfl, wx2⟩ := DataW.trod_int Try.underlying2 hy2
  obtain ⟨x3, e3, rfl, wx3⟩ := DataW.trod_int Try.underlying2 hy3
  simp at e2 e3
  subst e2 e3
  obtain ⟨c4, c5, y4, y5, m2, rfl, rfl, rfl, hy4, hy5⟩ := open_agg2 Try.underlying23 (by kernel_rfl) (cells_23) (hval 2 23 v2 rfl rfl) h2
  obtain ⟨x4, e4, rfl, wx4⟩ := DataW.trod_int Try.underlying2 hy4
  obtain ⟨x5, e5, rfl, wx5⟩ := DataW.trod_int Try.underlying2 hy5
  simp at e4 e5
  subst e4 e5
  clear hA0 hval0
  simp only [List.append_nil] at hW'
  refine (walk x0 x1 x2 x3 x4 x5 (bds wx0).1 (bds wx0).2 (bds wx1).1 (bds wx1).2 (bds wx2).1 (bds wx2).2 (bds wx3).1 (bds wx3).2 (bds wx4).1 (bds wx4).2 (bds wx5).1 (bds wx5).2 W).mono fun e W' ⟨he, hg⟩ => ?_
  subst he
  exact ⟨_, rfl, post_new (pa := []) (pv := []) hW' (fun _ _ _ => (trodAll_cons_mk (shut_bool Try.underlying4 _) trodAll_mk0)) (fun sp => (trodAll_cons_mk (shut_agg2 (y0 := (.lit (.int .i64 x0), [])) (y1 := (.lit (.int .i64 x1), [])) Try.underlying23 (by kernel_rfl) (cells_23) ⟨1, by simp [DataW.trod, Try.underlying2, wx0]⟩ ⟨1, by simp [DataW.trod, Try.underlying2, wx1]⟩) (trodAll_cons_mk (shut_agg2 (y0 := (.lit (.int .i64 x2), [])) (y1 := (.lit (.int .i64 x3), [])) Try.underlying23 (by kernel_rfl) (cells_23) ⟨1, by simp [DataW.trod, Try.underlying2, wx2]⟩ ⟨1, by simp [DataW.trod, Try.underlying2, wx3]⟩) (trodAll_cons_mk (shut_agg2 (y0 := (.lit (.int .i64 x4), [])) (y1 := (.lit (.int .i64 x5), [])) Try.underlying23 (by kernel_rfl) (cells_23) ⟨1, by simp [DataW.trod, Try.underlying2, wx4]⟩ ⟨1, by simp [DataW.trod, Try.underlying2, wx5]⟩) trodAll_mk0)))) (fun _ => rfl) rfl (hg.frame _)⟩

theorem proved : Rows.RatOrderSaid :=
  OpenClaim.holds_of_wide 3 Try.f3 rfl rfl rfl rfl rfl rfl rfl ⟨rfl, rfl, rfl, rfl, rfl⟩ rfl rfl rfl rfl rfl (by kernel_rfl) Try.func3 (by kernel_rfl)
    (of_decide_eq_true (by kernel_rfl)) (by unfold Func.isWrapper; first | (rw [if_pos (by decide +kernel)]; kernel_rfl) | (rw [if_neg (by decide +kernel)]; exact ⟨rfl, rfl⟩))
    (fun os started H enc _ => lifted os started H enc)

end Go.Proofs.Ytchfnmafladciab.ratOrder
namespace Go.Proofs.Ytchfnmafladciab
theorem ratOrder_holds : Rows.RatOrderSaid := ratOrder.proved
#print axioms ratOrder_holds
end Go.Proofs.Ytchfnmafladciab
