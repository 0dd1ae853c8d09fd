/- The law RatBack of package custoslaw01 returns true for any four numbers of 64 bits: what is added and taken away again, multiplied and divided again, is what it was, and the order of two does not matter. No condition. -/
import Derived.Test.YtchfnmafladciaaLive
import Derived.Test.YtchfnmafladciaaGlue
import Derived.ProofKit
import Derived.OpenShut
import Derived.Lib.SmallJoins
namespace Go.Proofs.Ytchfnmafladciaa.ratBack
open Go.ChangeShapes Go.WideShapes Go.ChangeAt Go.RowKit Go.Joins Go.Shelf
set_option linter.unusedVariables false

set_option maxRecDepth 100000 in
set_option maxHeartbeats 4000000 in
theorem core (n d m c A B C D S T G P Q K : Int) (w : World)
    (h1 : Hid (∀ w, Calls Try.prog 9 #[.int .i64 n, .int .i64 d] w fun e w' => e = .returned (.tuple #[.agg #[.int .i64 A, .int .i64 B], .int .i64 0]) ∧ Below w.heap.size w w'))
    (h2 : Hid (∀ w, Calls Try.prog 9 #[.int .i64 m, .int .i64 c] w fun e w' => e = .returned (.tuple #[.agg #[.int .i64 C, .int .i64 D], .int .i64 0]) ∧ Below w.heap.size w w'))
    (m1 : Hid (∀ w, Calls Try.prog 24 #[.agg #[.int .i64 A, .int .i64 B]] w fun e w' => e = .returned (.bool true) ∧ Below w.heap.size w w')) (m2 : Hid (∀ w, Calls Try.prog 24 #[.agg #[.int .i64 C, .int .i64 D]] w fun e w' => e = .returned (.bool true) ∧ Below w.heap.size w w'))
    (a1 : Hid (∀ w, Calls Try.prog 10 #[.agg #[.int .i64 A, .int .i64 B], .agg #[.int .i64 C, .int .i64 D]] w fun e w' => e = .returned (.tuple #[.agg #[.int .i64 S, .int .i64 T], .int .i64 G]) ∧ Below w.heap.size w w'))
    (a2 : Hid (∀ w, Calls Try.prog 10 #[.agg #[.int .i64 C, .int .i64 D], .agg #[.int .i64 A, .int .i64 B]] w fun e w' => e = .returned (.tuple #[.agg #[.int .i64 S, .int .i64 T], .int .i64 G]) ∧ Below w.heap.size w w'))
    (m3 : G = 0 → Hid (∀ w, Calls Try.prog 24 #[.agg #[.int .i64 S, .int .i64 T]] w fun e w' => e = .returned (.bool true) ∧ Below w.heap.size w w')) (s1 : G = 0 → Hid (∀ w, Calls Try.prog 16 #[.agg #[.int .i64 S, .int .i64 T], .agg #[.int .i64 C, .int .i64 D]] w fun e w' => e = .returned (.tuple #[.agg #[.int .i64 A, .int .i64 B], .int .i64 0]) ∧ Below w.heap.size w w'))
    (p1 : Hid (∀ w, Calls Try.prog 18 #[.agg #[.int .i64 A, .int .i64 B], .agg #[.int .i64 C, .int .i64 D]] w fun e w' => e = .returned (.tuple #[.agg #[.int .i64 P, .int .i64 Q], .int .i64 K]) ∧ Below w.heap.size w w'))
    (p2 : Hid (∀ w, Calls Try.prog 18 #[.agg #[.int .i64 C, .int .i64 D], .agg #[.int .i64 A, .int .i64 B]] w fun e w' => e = .returned (.tuple #[.agg #[.int .i64 P, .int .i64 Q], .int .i64 K]) ∧ Below w.heap.size w w'))
    (m4 : K = 0 → Hid (∀ w, Calls Try.prog 24 #[.agg #[.int .i64 P, .int .i64 Q]] w fun e w' => e = .returned (.bool true) ∧ Below w.heap.size w w')) (q1 : K = 0 → (C == 0) = false → Hid (∀ w, Calls Try.prog 20 #[.agg #[.int .i64 P, .int .i64 Q], .agg #[.int .i64 C, .int .i64 D]] w fun e w' => e = .returned (.tuple #[.agg #[.int .i64 A, .int .i64 B], .int .i64 0]) ∧ Below w.heap.size w w'))
    (hB : ¬ B ≤ 0) (hD : ¬ D ≤ 0) :
    Calls Try.prog 8 #[.agg #[.int .i64 n, .int .i64 d, .int .i64 m, .int .i64 c]] w fun e w' => e = .returned (.bool true) ∧ Below w.heap.size w w' := by
  have M3 : Hid (G = 0 → Hid (∀ w, Calls Try.prog 24 #[.agg #[.int .i64 S, .int .i64 T]] w fun e w' => e = .returned (.bool true) ∧ Below w.heap.size w w')) := m3
  have S1 : Hid (G = 0 → Hid (∀ w, Calls Try.prog 16 #[.agg #[.int .i64 S, .int .i64 T], .agg #[.int .i64 C, .int .i64 D]] w fun e w' => e = .returned (.tuple #[.agg #[.int .i64 A, .int .i64 B], .int .i64 0]) ∧ Below w.heap.size w w')) := s1
  have M4 : Hid (K = 0 → Hid (∀ w, Calls Try.prog 24 #[.agg #[.int .i64 P, .int .i64 Q]] w fun e w' => e = .returned (.bool true) ∧ Below w.heap.size w w')) := m4
  have Q1 : Hid (K = 0 → (C == 0) = false → Hid (∀ w, Calls Try.prog 20 #[.agg #[.int .i64 P, .int .i64 Q], .agg #[.int .i64 C, .int .i64 D]] w fun e w' => e = .returned (.tuple #[.agg #[.int .i64 A, .int .i64 B], .int .i64 0]) ∧ Below w.heap.size w w')) := q1
  clear m3 s1 m4 q1
  go_enter Try.func8, Try.ntmps8
  go_wp2_with fail
  refine (h1.out _).mono ?_
  rintro e w1 ⟨rfl, hb1⟩
  have g1 : Below w.heap.size w w1 := upon (by go_grown) hb1
  have l1 := g1.size
  go_wp2_with fail
  refine (h2.out _).mono ?_
  rintro e w2 ⟨rfl, hb2⟩
  have g2 : Below w.heap.size w w2 := upon (by go_grown) hb2
  have l2 := g2.size
  have ca2_0 := old hb2 (b := w1.heap.size) (o := 0) (v := .int .i64 A) (by simp [go_sem]) (by go_size)
  have ca2_1 := old hb2 (b := w1.heap.size) (o := 1) (v := .int .i64 B) (by simp [go_sem]) (by go_size)
  have za2 := oldlt hb2 (b := w1.heap.size) (by go_size)
  go_wp2_with fail
  refine (m1.out _).mono ?_
  rintro e w3 ⟨rfl, hb3⟩
  have g3 : Below w.heap.size w w3 := upon (by go_grown) hb3
  have l3 := g3.size
  have ca3_0 := old hb3 (b := w1.heap.size) (o := 0) (v := .int .i64 A) (by first | (with_reducible exact ca2_0) | simp [go_sem, ca2_0, za2]) (by go_size)
  have ca3_1 := old hb3 (b := w1.heap.size) (o := 1) (v := .int .i64 B) (by first | (with_reducible exact ca2_1) | simp [go_sem, ca2_1, za2]) (by go_size)
  have za3 := oldlt hb3 (b := w1.heap.size) (by go_size)
  have cb3_0 := old hb3 (b := w2.heap.size) (o := 0) (v := .int .i64 C) (by simp [go_sem]) (by go_size)
  have cb3_1 := old hb3 (b := w2.heap.size) (o := 1) (v := .int .i64 D) (by simp [go_sem]) (by go_size)
  have zb3 := oldlt hb3 (b := w2.heap.size) (by go_size)
  clear ca2_0 ca2_1 za2
  go_wp2_with fail
  refine (m2.out _).mono ?_
  rintro e w4 ⟨rfl, hb4⟩
  have g4 : Below w.heap.size w w4 := upon (by go_grown) hb4
  have l4 := g4.size
  have ca4_0 := old hb4 (b := w1.heap.size) (o := 0) (v := .int .i64 A) (by first | (with_reducible exact ca3_0) | simp [go_sem, ca3_0, za3]) (by go_size)
  have ca4_1 := old hb4 (b := w1.heap.size) (o := 1) (v := .int .i64 B) (by first | (with_reducible exact ca3_1) | simp [go_sem, ca3_1, za3]) (by go_size)
  have za4 := oldlt hb4 (b := w1.heap.size) (by go_size)
  have cb4_0 := old hb4 (b := w2.heap.size) (o := 0) (v := .int .i64 C) (by first | (with_reducible exact cb3_0) | simp [go_sem, cb3_0, zb3]) (by go_size)
  have cb4_1 := old hb4 (b := w2.heap.size) (o := 1) (v := .int .i64 D) (by first | (with_reducible exact cb3_1) | simp [go_sem, cb3_1, zb3]) (by go_size)
  have zb4 := oldlt hb4 (b := w2.heap.size) (by go_size)
  clear ca3_0 ca3_1 za3 cb3_0 cb3_1 zb3
  go_wp2_with fail
  refine (a1.out _).mono ?_
  rintro e w5 ⟨rfl, hb5⟩
  have g5 : Below w.heap.size w w5 := upon (by go_grown) hb5
  have l5 := g5.size
  have ca5_0 := old hb5 (b := w1.heap.size) (o := 0) (v := .int .i64 A) (by first | (with_reducible exact ca4_0) | simp [go_sem, ca4_0, za4]) (by go_size)
  have ca5_1 := old hb5 (b := w1.heap.size) (o := 1) (v := .int .i64 B) (by first | (with_reducible exact ca4_1) | simp [go_sem, ca4_1, za4]) (by go_size)
  have za5 := oldlt hb5 (b := w1.heap.size) (by go_size)
  have cb5_0 := old hb5 (b := w2.heap.size) (o := 0) (v := .int .i64 C) (by first | (with_reducible exact cb4_0) | simp [go_sem, cb4_0, zb4]) (by go_size)
  have cb5_1 := old hb5 (b := w2.heap.size) (o := 1) (v := .int .i64 D) (by first | (with_reducible exact cb4_1) | simp [go_sem, cb4_1, zb4]) (by go_size)
  have zb5 := oldlt hb5 (b := w2.heap.size) (by go_size)
  clear ca4_0 ca4_1 za4 cb4_0 cb4_1 zb4
  go_wp2_with fail
  refine (a2.out _).mono ?_
  rintro e w6 ⟨rfl, hb6⟩
  have g6 : Below w.heap.size w w6 := upon (by go_grown) hb6
  have l6 := g6.size
  have ca6_0 := old hb6 (b := w1.heap.size) (o := 0) (v := .int .i64 A) (by first | (with_reducible exact ca5_0) | simp [go_sem, ca5_0, za5]) (by go_size)
  have ca6_1 := old hb6 (b := w1.heap.size) (o := 1) (v := .int .i64 B) (by first | (with_reducible exact ca5_1) | simp [go_sem, ca5_1, za5]) (by go_size)
  have za6 := oldlt hb6 (b := w1.heap.size) (by go_size)
  have cb6_0 := old hb6 (b := w2.heap.size) (o := 0) (v := .int .i64 C) (by first | (with_reducible exact cb5_0) | simp [go_sem, cb5_0, zb5]) (by go_size)
  have cb6_1 := old hb6 (b := w2.heap.size) (o := 1) (v := .int .i64 D) (by first | (with_reducible exact cb5_1) | simp [go_sem, cb5_1, zb5]) (by go_size)
  have zb6 := oldlt hb6 (b := w2.heap.size) (by go_size)
  have cs6_0 := old hb6 (b := w5.heap.size) (o := 0) (v := .int .i64 S) (by simp [go_sem]) (by go_size)
  have cs6_1 := old hb6 (b := w5.heap.size) (o := 1) (v := .int .i64 T) (by simp [go_sem]) (by go_size)
  have zs6 := oldlt hb6 (b := w5.heap.size) (by go_size)
  clear ca5_0 ca5_1 za5 cb5_0 cb5_1 zb5
  by_cases hG : G = 0
  · subst hG
    have M6 := M3.out rfl
    have S6 := S1.out rfl
    clear M3 S1
    go_wp2_with fail
    refine (M6.out _).mono ?_
    rintro e w7 ⟨rfl, hb7⟩
    have g7 : Below w.heap.size w w7 := upon (by go_grown) hb7
    have l7 := g7.size
    have ca7_0 := old hb7 (b := w1.heap.size) (o := 0) (v := .int .i64 A) (by first | (with_reducible exact ca6_0) | simp [go_sem, ca6_0, za6]) (by go_size)
    have ca7_1 := old hb7 (b := w1.heap.size) (o := 1) (v := .int .i64 B) (by first | (with_reducible exact ca6_1) | simp [go_sem, ca6_1, za6]) (by go_size)
    have za7 := oldlt hb7 (b := w1.heap.size) (by go_size)
    have cb7_0 := old hb7 (b := w2.heap.size) (o := 0) (v := .int .i64 C) (by first | (with_reducible exact cb6_0) | simp [go_sem, cb6_0, zb6]) (by go_size)
    have cb7_1 := old hb7 (b := w2.heap.size) (o := 1) (v := .int .i64 D) (by first | (with_reducible exact cb6_1) | simp [go_sem, cb6_1, zb6]) (by go_size)
    have zb7 := oldlt hb7 (b := w2.heap.size) (by go_size)
    have cs7_0 := old hb7 (b := w5.heap.size) (o := 0) (v := .int .i64 S) (by first | (with_reducible exact cs6_0) | simp [go_sem, cs6_0, zs6]) (by go_size)
    have cs7_1 := old hb7 (b := w5.heap.size) (o := 1) (v := .int .i64 T) (by first | (with_reducible exact cs6_1) | simp [go_sem, cs6_1, zs6]) (by go_size)
    have zs7 := oldlt hb7 (b := w5.heap.size) (by go_size)
    clear ca6_0 ca6_1 za6 cb6_0 cb6_1 zb6 cs6_0 cs6_1 zs6
    go_wp2_with fail
    refine (S6.out _).mono ?_
    rintro e w8 ⟨rfl, hb8⟩
    have g8 : Below w.heap.size w w8 := upon (by go_grown) hb8
    have l8 := g8.size
    have ca8_0 := old hb8 (b := w1.heap.size) (o := 0) (v := .int .i64 A) (by first | (with_reducible exact ca7_0) | simp [go_sem, ca7_0, za7]) (by go_size)
    have ca8_1 := old hb8 (b := w1.heap.size) (o := 1) (v := .int .i64 B) (by first | (with_reducible exact ca7_1) | simp [go_sem, ca7_1, za7]) (by go_size)
    have za8 := oldlt hb8 (b := w1.heap.size) (by go_size)
    have cb8_0 := old hb8 (b := w2.heap.size) (o := 0) (v := .int .i64 C) (by first | (with_reducible exact cb7_0) | simp [go_sem, cb7_0, zb7]) (by go_size)
    have cb8_1 := old hb8 (b := w2.heap.size) (o := 1) (v := .int .i64 D) (by first | (with_reducible exact cb7_1) | simp [go_sem, cb7_1, zb7]) (by go_size)
    have zb8 := oldlt hb8 (b := w2.heap.size) (by go_size)
    clear ca7_0 ca7_1 za7 cb7_0 cb7_1 zb7 cs7_0 cs7_1 zs7
    go_wp2_with fail
    refine (p1.out _).mono ?_
    rintro e w9 ⟨rfl, hb9⟩
    have g9 : Below w.heap.size w w9 := upon (by go_grown) hb9
    have l9 := g9.size
    have ca9_0 := old hb9 (b := w1.heap.size) (o := 0) (v := .int .i64 A) (by first | (with_reducible exact ca8_0) | simp [go_sem, ca8_0, za8]) (by go_size)
    have ca9_1 := old hb9 (b := w1.heap.size) (o := 1) (v := .int .i64 B) (by first | (with_reducible exact ca8_1) | simp [go_sem, ca8_1, za8]) (by go_size)
    have za9 := oldlt hb9 (b := w1.heap.size) (by go_size)
    have cb9_0 := old hb9 (b := w2.heap.size) (o := 0) (v := .int .i64 C) (by first | (with_reducible exact cb8_0) | simp [go_sem, cb8_0, zb8]) (by go_size)
    have cb9_1 := old hb9 (b := w2.heap.size) (o := 1) (v := .int .i64 D) (by first | (with_reducible exact cb8_1) | simp [go_sem, cb8_1, zb8]) (by go_size)
    have zb9 := oldlt hb9 (b := w2.heap.size) (by go_size)
    clear ca8_0 ca8_1 za8 cb8_0 cb8_1 zb8
    go_wp2_with fail
    refine (p2.out _).mono ?_
    rintro e w10 ⟨rfl, hb10⟩
    have g10 : Below w.heap.size w w10 := upon (by go_grown) hb10
    have l10 := g10.size
    have ca10_0 := old hb10 (b := w1.heap.size) (o := 0) (v := .int .i64 A) (by first | (with_reducible exact ca9_0) | simp [go_sem, ca9_0, za9]) (by go_size)
    have ca10_1 := old hb10 (b := w1.heap.size) (o := 1) (v := .int .i64 B) (by first | (with_reducible exact ca9_1) | simp [go_sem, ca9_1, za9]) (by go_size)
    have za10 := oldlt hb10 (b := w1.heap.size) (by go_size)
    have cb10_0 := old hb10 (b := w2.heap.size) (o := 0) (v := .int .i64 C) (by first | (with_reducible exact cb9_0) | simp [go_sem, cb9_0, zb9]) (by go_size)
    have cb10_1 := old hb10 (b := w2.heap.size) (o := 1) (v := .int .i64 D) (by first | (with_reducible exact cb9_1) | simp [go_sem, cb9_1, zb9]) (by go_size)
    have zb10 := oldlt hb10 (b := w2.heap.size) (by go_size)
    have cp10_0 := old hb10 (b := w9.heap.size) (o := 0) (v := .int .i64 P) (by simp [go_sem]) (by go_size)
    have cp10_1 := old hb10 (b := w9.heap.size) (o := 1) (v := .int .i64 Q) (by simp [go_sem]) (by go_size)
    have zp10 := oldlt hb10 (b := w9.heap.size) (by go_size)
    clear ca9_0 ca9_1 za9 cb9_0 cb9_1 zb9
    by_cases hK : K = 0
    · subst hK
      have M5 := M4.out rfl
      by_cases hC : C = 0
      · subst hC
        clear M4 Q1
        go_wp2_with fail
        refine (M5.out _).mono ?_
        rintro e w11 ⟨rfl, hb11⟩
        have g11 : Below w.heap.size w w11 := upon (by go_grown) hb11
        have l11 := g11.size
        have ca11_0 := old hb11 (b := w1.heap.size) (o := 0) (v := .int .i64 A) (by first | (with_reducible exact ca10_0) | simp [go_sem, ca10_0, za10]) (by go_size)
        have ca11_1 := old hb11 (b := w1.heap.size) (o := 1) (v := .int .i64 B) (by first | (with_reducible exact ca10_1) | simp [go_sem, ca10_1, za10]) (by go_size)
        have za11 := oldlt hb11 (b := w1.heap.size) (by go_size)
        have cb11_0 := old hb11 (b := w2.heap.size) (o := 0) (v := .int .i64 0) (by first | (with_reducible exact cb10_0) | simp [go_sem, cb10_0, zb10]) (by go_size)
        have cb11_1 := old hb11 (b := w2.heap.size) (o := 1) (v := .int .i64 D) (by first | (with_reducible exact cb10_1) | simp [go_sem, cb10_1, zb10]) (by go_size)
        have zb11 := oldlt hb11 (b := w2.heap.size) (by go_size)
        have cp11_0 := old hb11 (b := w9.heap.size) (o := 0) (v := .int .i64 P) (by first | (with_reducible exact cp10_0) | simp [go_sem, cp10_0, zp10]) (by go_size)
        have cp11_1 := old hb11 (b := w9.heap.size) (o := 1) (v := .int .i64 Q) (by first | (with_reducible exact cp10_1) | simp [go_sem, cp10_1, zp10]) (by go_size)
        have zp11 := oldlt hb11 (b := w9.heap.size) (by go_size)
        clear ca10_0 ca10_1 za10 cb10_0 cb10_1 zb10 cp10_0 cp10_1 zp10
        go_wp2_with fail
        refine (live_any _).mono ?_
        rintro e w12 ⟨rfl, hb12⟩
        have g12 : Below w.heap.size w w12 := upon (by go_grown) hb12
        have l12 := g12.size
        clear ca11_0 ca11_1 za11 cb11_0 cb11_1 zb11 cp11_0 cp11_1 zp11
        go_wp2
        go_ret
        exact ⟨rfl, g12⟩
      · have hC0 : (C == 0) = false := by simpa using hC
        have hC1 : (C != 0) = true := by simpa using hC
        have Q5 := Q1.out rfl hC0
        clear M4 Q1
        go_wp2_with fail
        refine (M5.out _).mono ?_
        rintro e w11 ⟨rfl, hb11⟩
        have g11 : Below w.heap.size w w11 := upon (by go_grown) hb11
        have l11 := g11.size
        have ca11_0 := old hb11 (b := w1.heap.size) (o := 0) (v := .int .i64 A) (by first | (with_reducible exact ca10_0) | simp [go_sem, ca10_0, za10]) (by go_size)
        have ca11_1 := old hb11 (b := w1.heap.size) (o := 1) (v := .int .i64 B) (by first | (with_reducible exact ca10_1) | simp [go_sem, ca10_1, za10]) (by go_size)
        have za11 := oldlt hb11 (b := w1.heap.size) (by go_size)
        have cb11_0 := old hb11 (b := w2.heap.size) (o := 0) (v := .int .i64 C) (by first | (with_reducible exact cb10_0) | simp [go_sem, cb10_0, zb10]) (by go_size)
        have cb11_1 := old hb11 (b := w2.heap.size) (o := 1) (v := .int .i64 D) (by first | (with_reducible exact cb10_1) | simp [go_sem, cb10_1, zb10]) (by go_size)
        have zb11 := oldlt hb11 (b := w2.heap.size) (by go_size)
        have cp11_0 := old hb11 (b := w9.heap.size) (o := 0) (v := .int .i64 P) (by first | (with_reducible exact cp10_0) | simp [go_sem, cp10_0, zp10]) (by go_size)
        have cp11_1 := old hb11 (b := w9.heap.size) (o := 1) (v := .int .i64 Q) (by first | (with_reducible exact cp10_1) | simp [go_sem, cp10_1, zp10]) (by go_size)
        have zp11 := oldlt hb11 (b := w9.heap.size) (by go_size)
        clear ca10_0 ca10_1 za10 cb10_0 cb10_1 zb10 cp10_0 cp10_1 zp10
        go_wp2_with fail
        refine (Q5.out _).mono ?_
        rintro e w12 ⟨rfl, hb12⟩
        have g12 : Below w.heap.size w w12 := upon (by go_grown) hb12
        have l12 := g12.size
        have ca12_0 := old hb12 (b := w1.heap.size) (o := 0) (v := .int .i64 A) (by first | (with_reducible exact ca11_0) | simp [go_sem, ca11_0, za11]) (by go_size)
        have ca12_1 := old hb12 (b := w1.heap.size) (o := 1) (v := .int .i64 B) (by first | (with_reducible exact ca11_1) | simp [go_sem, ca11_1, za11]) (by go_size)
        have za12 := oldlt hb12 (b := w1.heap.size) (by go_size)
        clear ca11_0 ca11_1 za11 cb11_0 cb11_1 zb11 cp11_0 cp11_1 zp11
        go_wp2_with fail
        refine (live_any _).mono ?_
        rintro e w13 ⟨rfl, hb13⟩
        have g13 : Below w.heap.size w w13 := upon (by go_grown) hb13
        have l13 := g13.size
        clear ca12_0 ca12_1 za12
        go_wp2
        go_ret
        exact ⟨rfl, g13⟩
    · have hK0 : (K == 0) = false := by simpa using hK
      go_wp2_with fail
      refine (live_any _).mono ?_
      rintro e w11 ⟨rfl, hb11⟩
      have g11 : Below w.heap.size w w11 := upon (by go_grown) hb11
      have l11 := g11.size
      clear ca10_0 ca10_1 za10 cb10_0 cb10_1 zb10 cp10_0 cp10_1 zp10
      go_wp2
      go_ret
      exact ⟨rfl, g11⟩
  · have hG0 : (G == 0) = false := by simpa using hG
    go_wp2_with fail
    refine (p1.out _).mono ?_
    rintro e w7 ⟨rfl, hb7⟩
    have g7 : Below w.heap.size w w7 := upon (by go_grown) hb7
    have l7 := g7.size
    have ca7_0 := old hb7 (b := w1.heap.size) (o := 0) (v := .int .i64 A) (by first | (with_reducible exact ca6_0) | simp [go_sem, ca6_0, za6]) (by go_size)
    have ca7_1 := old hb7 (b := w1.heap.size) (o := 1) (v := .int .i64 B) (by first | (with_reducible exact ca6_1) | simp [go_sem, ca6_1, za6]) (by go_size)
    have za7 := oldlt hb7 (b := w1.heap.size) (by go_size)
    have cb7_0 := old hb7 (b := w2.heap.size) (o := 0) (v := .int .i64 C) (by first | (with_reducible exact cb6_0) | simp [go_sem, cb6_0, zb6]) (by go_size)
    have cb7_1 := old hb7 (b := w2.heap.size) (o := 1) (v := .int .i64 D) (by first | (with_reducible exact cb6_1) | simp [go_sem, cb6_1, zb6]) (by go_size)
    have zb7 := oldlt hb7 (b := w2.heap.size) (by go_size)
    clear ca6_0 ca6_1 za6 cb6_0 cb6_1 zb6 cs6_0 cs6_1 zs6
    go_wp2_with fail
    refine (p2.out _).mono ?_
    rintro e w8 ⟨rfl, hb8⟩
    have g8 : Below w.heap.size w w8 := upon (by go_grown) hb8
    have l8 := g8.size
    have ca8_0 := old hb8 (b := w1.heap.size) (o := 0) (v := .int .i64 A) (by first | (with_reducible exact ca7_0) | simp [go_sem, ca7_0, za7]) (by go_size)
    have ca8_1 := old hb8 (b := w1.heap.size) (o := 1) (v := .int .i64 B) (by first | (with_reducible exact ca7_1) | simp [go_sem, ca7_1, za7]) (by go_size)
    have za8 := oldlt hb8 (b := w1.heap.size) (by go_size)
    have cb8_0 := old hb8 (b := w2.heap.size) (o := 0) (v := .int .i64 C) (by first | (with_reducible exact cb7_0) | simp [go_sem, cb7_0, zb7]) (by go_size)
    have cb8_1 := old hb8 (b := w2.heap.size) (o := 1) (v := .int .i64 D) (by first | (with_reducible exact cb7_1) | simp [go_sem, cb7_1, zb7]) (by go_size)
    have zb8 := oldlt hb8 (b := w2.heap.size) (by go_size)
    have cp8_0 := old hb8 (b := w7.heap.size) (o := 0) (v := .int .i64 P) (by simp [go_sem]) (by go_size)
    have cp8_1 := old hb8 (b := w7.heap.size) (o := 1) (v := .int .i64 Q) (by simp [go_sem]) (by go_size)
    have zp8 := oldlt hb8 (b := w7.heap.size) (by go_size)
    clear ca7_0 ca7_1 za7 cb7_0 cb7_1 zb7
    by_cases hK : K = 0
    · subst hK
      have M5 := M4.out rfl
      by_cases hC : C = 0
      · subst hC
        clear M4 Q1
        go_wp2_with fail
        refine (M5.out _).mono ?_
        rintro e w9 ⟨rfl, hb9⟩
        have g9 : Below w.heap.size w w9 := upon (by go_grown) hb9
        have l9 := g9.size
        have ca9_0 := old hb9 (b := w1.heap.size) (o := 0) (v := .int .i64 A) (by first | (with_reducible exact ca8_0) | simp [go_sem, ca8_0, za8]) (by go_size)
        have ca9_1 := old hb9 (b := w1.heap.size) (o := 1) (v := .int .i64 B) (by first | (with_reducible exact ca8_1) | simp [go_sem, ca8_1, za8]) (by go_size)
        have za9 := oldlt hb9 (b := w1.heap.size) (by go_size)
        have cb9_0 := old hb9 (b := w2.heap.size) (o := 0) (v := .int .i64 0) (by first | (with_reducible exact cb8_0) | simp [go_sem, cb8_0, zb8]) (by go_size)
        have cb9_1 := old hb9 (b := w2.heap.size) (o := 1) (v := .int .i64 D) (by first | (with_reducible exact cb8_1) | simp [go_sem, cb8_1, zb8]) (by go_size)
        have zb9 := oldlt hb9 (b := w2.heap.size) (by go_size)
        have cp9_0 := old hb9 (b := w7.heap.size) (o := 0) (v := .int .i64 P) (by first | (with_reducible exact cp8_0) | simp [go_sem, cp8_0, zp8]) (by go_size)
        have cp9_1 := old hb9 (b := w7.heap.size) (o := 1) (v := .int .i64 Q) (by first | (with_reducible exact cp8_1) | simp [go_sem, cp8_1, zp8]) (by go_size)
        have zp9 := oldlt hb9 (b := w7.heap.size) (by go_size)
        clear ca8_0 ca8_1 za8 cb8_0 cb8_1 zb8 cp8_0 cp8_1 zp8
        go_wp2_with fail
        refine (live_any _).mono ?_
        rintro e w10 ⟨rfl, hb10⟩
        have g10 : Below w.heap.size w w10 := upon (by go_grown) hb10
        have l10 := g10.size
        clear ca9_0 ca9_1 za9 cb9_0 cb9_1 zb9 cp9_0 cp9_1 zp9
        go_wp2
        go_ret
        exact ⟨rfl, g10⟩
      · have hC0 : (C == 0) = false := by simpa using hC
        have hC1 : (C != 0) = true := by simpa using hC
        have Q5 := Q1.out rfl hC0
        clear M4 Q1
        go_wp2_with fail
        refine (M5.out _).mono ?_
        rintro e w9 ⟨rfl, hb9⟩
        have g9 : Below w.heap.size w w9 := upon (by go_grown) hb9
        have l9 := g9.size
        have ca9_0 := old hb9 (b := w1.heap.size) (o := 0) (v := .int .i64 A) (by first | (with_reducible exact ca8_0) | simp [go_sem, ca8_0, za8]) (by go_size)
        have ca9_1 := old hb9 (b := w1.heap.size) (o := 1) (v := .int .i64 B) (by first | (with_reducible exact ca8_1) | simp [go_sem, ca8_1, za8]) (by go_size)
        have za9 := oldlt hb9 (b := w1.heap.size) (by go_size)
        have cb9_0 := old hb9 (b := w2.heap.size) (o := 0) (v := .int .i64 C) (by first | (with_reducible exact cb8_0) | simp [go_sem, cb8_0, zb8]) (by go_size)
        have cb9_1 := old hb9 (b := w2.heap.size) (o := 1) (v := .int .i64 D) (by first | (with_reducible exact cb8_1) | simp [go_sem, cb8_1, zb8]) (by go_size)
        have zb9 := oldlt hb9 (b := w2.heap.size) (by go_size)
        have cp9_0 := old hb9 (b := w7.heap.size) (o := 0) (v := .int .i64 P) (by first | (with_reducible exact cp8_0) | simp [go_sem, cp8_0, zp8]) (by go_size)
        have cp9_1 := old hb9 (b := w7.heap.size) (o := 1) (v := .int .i64 Q) (by first | (with_reducible exact cp8_1) | simp [go_sem, cp8_1, zp8]) (by go_size)
        have zp9 := oldlt hb9 (b := w7.heap.size) (by go_size)
        clear ca8_0 ca8_1 za8 cb8_0 cb8_1 zb8 cp8_0 cp8_1 zp8
        go_wp2_with fail
        refine (Q5.out _).mono ?_
        rintro e w10 ⟨rfl, hb10⟩
        have g10 : Below w.heap.size w w10 := upon (by go_grown) hb10
        have l10 := g10.size
        have ca10_0 := old hb10 (b := w1.heap.size) (o := 0) (v := .int .i64 A) (by first | (with_reducible exact ca9_0) | simp [go_sem, ca9_0, za9]) (by go_size)
        have ca10_1 := old hb10 (b := w1.heap.size) (o := 1) (v := .int .i64 B) (by first | (with_reducible exact ca9_1) | simp [go_sem, ca9_1, za9]) (by go_size)
        have za10 := oldlt hb10 (b := w1.heap.size) (by go_size)
        clear ca9_0 ca9_1 za9 cb9_0 cb9_1 zb9 cp9_0 cp9_1 zp9
        go_wp2_with fail
        refine (live_any _).mono ?_
        rintro e w11 ⟨rfl, hb11⟩
        have g11 : Below w.heap.size w w11 := upon (by go_grown) hb11
        have l11 := g11.size
        clear ca10_0 ca10_1 za10
        go_wp2
        go_ret
        exact ⟨rfl, g11⟩
    · have hK0 : (K == 0) = false := by simpa using hK
      go_wp2_with fail
      refine (live_any _).mono ?_
      rintro e w9 ⟨rfl, hb9⟩
      have g9 : Below w.heap.size w w9 := upon (by go_grown) hb9
      have l9 := g9.size
      clear ca8_0 ca8_1 za8 cb8_0 cb8_1 zb8 cp8_0 cp8_1 zp8
      go_wp2
      go_ret
      exact ⟨rfl, g9⟩

set_option maxRecDepth 100000 in
set_option maxHeartbeats 1000000 in
theorem early (n d m c A B E C D F : Int) (w : World) (h1 : Hid (∀ w, Calls Try.prog 9 #[.int .i64 n, .int .i64 d] w fun e w' => e = .returned (.tuple #[.agg #[.int .i64 A, .int .i64 B], .int .i64 E]) ∧ Below w.heap.size w w')) (h2 : Hid (∀ w, Calls Try.prog 9 #[.int .i64 m, .int .i64 c] w fun e w' => e = .returned (.tuple #[.agg #[.int .i64 C, .int .i64 D], .int .i64 F]) ∧ Below w.heap.size w w')) (hE : (E == 0) = false ∨ E = 0 ∧ (F == 0) = false) :
    Calls Try.prog 8 #[.agg #[.int .i64 n, .int .i64 d, .int .i64 m, .int .i64 c]] w fun e w' => e = .returned (.bool true) ∧ Below w.heap.size w w' := by
  rcases hE with hE | ⟨rfl, hE⟩
  · go_enter Try.func8, Try.ntmps8
    go_wp2_with fail
    refine (h1.out _).mono ?_
    rintro e w1 ⟨rfl, hb1⟩
    have g1 : Below w.heap.size w w1 := upon (by go_grown) hb1
    have l1 := g1.size
    go_wp2_with fail
    refine (h2.out _).mono ?_
    rintro e w2 ⟨rfl, hb2⟩
    have g2 : Below w.heap.size w w2 := upon (by go_grown) hb2
    have l2 := g2.size
    go_wp2_with fail
    refine (live_any _).mono ?_
    rintro e w3 ⟨rfl, hb3⟩
    have g3 : Below w.heap.size w w3 := upon (by go_grown) hb3
    have l3 := g3.size
    go_wp2
    go_ret
    exact ⟨rfl, g3⟩
  · go_enter Try.func8, Try.ntmps8
    go_wp2_with fail
    refine (h1.out _).mono ?_
    rintro e w1 ⟨rfl, hb1⟩
    have g1 : Below w.heap.size w w1 := upon (by go_grown) hb1
    have l1 := g1.size
    go_wp2_with fail
    refine (h2.out _).mono ?_
    rintro e w2 ⟨rfl, hb2⟩
    have g2 : Below w.heap.size w w2 := upon (by go_grown) hb2
    have l2 := g2.size
    go_wp2_with fail
    refine (live_any _).mono ?_
    rintro e w3 ⟨rfl, hb3⟩
    have g3 : Below w.heap.size w w3 := upon (by go_grown) hb3
    have l3 := g3.size
    go_wp2
    go_ret
    exact ⟨rfl, g3⟩

theorem walk (x0 x1 x2 x3 : Int) (a0 : -9223372036854775808 ≤ x0) (b0 : x0 ≤ 9223372036854775807) (a1 : -9223372036854775808 ≤ x1) (b1 : x1 ≤ 9223372036854775807) (a2 : -9223372036854775808 ≤ x2) (b2 : x2 ≤ 9223372036854775807) (a3 : -9223372036854775808 ≤ x3) (b3 : x3 ≤ 9223372036854775807) (w : World) :
    Calls Try.prog 8 #[.agg #[.int .i64 x0, .int .i64 x1, .int .i64 x2, .int .i64 x3]] w fun e w' => e = .returned (.bool true) ∧ Below w.heap.size w w' := by
  have o1 := fun w => of_all x0 x1 w a0 b0 a1 b1
  have o2 := fun w => of_all x2 x3 w a2 b2 a3 b3
  by_cases hE : oE x0 x1 = 0
  · by_cases hF : oE x2 x3 = 0
    · obtain ⟨m1, r1, r2⟩ := o_val hE
      obtain ⟨m2, r3, r4⟩ := o_val hF
      rw [hE] at o1
      rw [hF] at o2
      generalize oN x0 x1 = A at *
      generalize oD x0 x1 = B at *
      generalize oN x2 x3 = C at *
      generalize oD x2 x3 = D at *
      obtain ⟨p1, _⟩ := may_of m1
      obtain ⟨p2, _⟩ := may_of m2
      have l1 := fun w => lmay_any A B w r1.1 r1.2 r2.1 r2.2
      have l2 := fun w => lmay_any C D w r3.1 r3.2 r4.1 r4.2
      rw [m1] at l1
      rw [m2] at l2
      have s1 := fun w => add_all A B C D w r1.1 r1.2 r2.1 r2.2 r3.1 r3.2 r4.1 r4.2
      have s2 := fun w => add_all C D A B w r3.1 r3.2 r4.1 r4.2 r1.1 r1.2 r2.1 r2.2
      obtain ⟨k1, k2, k3⟩ := add_comm_t A B C D
      rw [k1, k2, k3] at s2
      have t1 := fun w => mul_all A B C D w r1.1 r1.2 r2.1 r2.2 r3.1 r3.2 r4.1 r4.2
      have t2 := fun w => mul_all C D A B w r3.1 r3.2 r4.1 r4.2 r1.1 r1.2 r2.1 r2.2
      obtain ⟨j1, j2, j3⟩ := mul_comm_t A B C D
      rw [j1, j2, j3] at t2
      obtain ⟨y1, y2, y3⟩ := t_yes m1 m2 (A * D + C * B) (B * D)
      obtain ⟨z1, z2, z3⟩ := t_yes m1 m2 (A * C) (B * D)
      rw [y1, y2, y3] at s1 s2
      rw [z1, z2, z3] at t1 t2
      refine core x0 x1 x2 x3 A B C D _ _ _ _ _ _ w o1 o2 l1 l2 s1 s2 ?_ ?_ t1 t2 ?_ ?_ (by omega) (by omega)
      · intro hG
        obtain ⟨_, v2, v3, v4⟩ := r_val (Int.mul_pos p1 p2) hG
        have q := fun w => lmay_any _ _ w v3.1 v3.2 v4.1 v4.2
        rw [v2] at q
        exact q
      · intro hG
        obtain ⟨_, v2, v3, v4⟩ := r_val (Int.mul_pos p1 p2) hG
        have q := fun w => sub_all _ _ C D w v3.1 v3.2 v4.1 v4.2 r3.1 r3.2 r4.1 r4.2
        obtain ⟨u1, u2, u3⟩ := t_yes v2 m2 (rN (A * D + C * B) (B * D) * D - C * rD (A * D + C * B) (B * D)) (rD (A * D + C * B) (B * D) * D)
        obtain ⟨n1, n2, n3⟩ := back_sum r1 r2 m1 m2 hG
        rw [u1, u2, u3, n1, n2, n3] at q
        exact q
      · intro hK
        obtain ⟨_, v2, v3, v4⟩ := r_val (Int.mul_pos p1 p2) hK
        have q := fun w => lmay_any _ _ w v3.1 v3.2 v4.1 v4.2
        rw [v2] at q
        exact q
      · intro hK hC
        have hC' : C ≠ 0 := by simpa using hC
        obtain ⟨_, v2, v3, v4⟩ := r_val (Int.mul_pos p1 p2) hK
        have q := fun w => div_all _ _ C D w v3.1 v3.2 v4.1 v4.2 r3.1 r3.2 r4.1 r4.2 (Or.inl hC')
        obtain ⟨u1, u2, u3⟩ := t_yes v2 m2 (rN (A * C) (B * D) * sg (decide (C < 0)) D) (rD (A * C) (B * D) * sz C)
        obtain ⟨n1, n2, n3⟩ := back_prod r1 r2 m1 m2 hC' hK
        rw [u1, u2, u3, n1, n2, n3] at q
        exact q
    · rw [hE] at o1
      exact early x0 x1 x2 x3 _ _ 0 _ _ _ w o1 o2 (Or.inr ⟨rfl, by simpa using hF⟩)
  · exact early x0 x1 x2 x3 _ _ _ _ _ _ w o1 o2 (Or.inl (by simpa using hE))

theorem cells_40 : Try.prog.cellsOf 40 = 4 := by kernel_rfl

theorem own : ownKnob Try.prog.godebug = none := by kernel_rfl

/-- The row's end, where nothing that was there has turned and nothing is asked again. -/
theorem post_new {H : Type} {enc : TypeId × Value → H} {P : Program} {f : Func} {s : ChangeSpec} {apart fresh handsOn : Bool} {W W' : World} {args : Array Value} {v : Value} {ds gs : List (DataW H)} {before pa pv : List MemPlace}
    (hW : DataW.Whole enc P f.params.toList s.vars apart W args.toList ds gs before)
    (hres : ∀ (b : Nat) (sp : Nat → Bool) (hd : Bool), DataW.TrodAll enc P W' b sp hd f.resultTypes.toList (v.resultList f.resultTypes.size) (s.fn H (ds ++ gs)).results [])
    (hargs : ∀ sp : Nat → Bool, DataW.TrodAll enc P W' 0 sp true f.params.toList args.toList (s.fn H (ds ++ gs)).args pa)
    (hvars : ∀ sp : Nat → Bool, DataW.TrodVars enc P W' sp s.vars (s.fn H (ds ++ gs)).vars pv)
    (hps : before = pa ++ pv) (hk : W.keptBut W' (· ∈ before)) : s.post enc P f apart fresh handsOn false W args v W' :=
  ⟨ds, gs, before, [], pa, pv, hW, hres _ _ _, hargs _, hvars _, World.keptBut_mono (fun _ hp => ⟨hp, Or.inr (List.mem_append.1 (hps ▸ hp))⟩) hk, fun h => Bool.noConfusion h⟩

theorem bds {x : Int} (h : (Lit.int .i64 x).wf = true) : -9223372036854775808 ≤ x ∧ x ≤ 9223372036854775807 := by
  simp [Lit.wf, IntKind.min, IntKind.max, IntKind.signed, IntKind.bits] at h
  omega

set_option maxRecDepth 100000 in
theorem lifted (os : Os) (started : os.Started) (H : Type) (enc : TypeId × Value → H) :
    ReturnsInHanded {} Try.checked os 8 .any (Rows.ratBackSpec.pre6 enc Try.prog Try.f8 Rows.ratBackRow.domain false) (Rows.ratBackSpec.post enc Try.prog Try.f8 false true false false) := by
  refine returnsInHanded_of_change (C := Try.checked) own started (by kernel_rfl) Try.func8
    (ChangeSpec.witness6 (enc := enc) (C := Try.checked) false ⟨#[], #[.agg #[.int .i64 0, .int .i64 0, .int .i64 0, .int .i64 0]], []⟩ 8 (by kernel_rfl) (by kernel_rfl) (by kernel_rfl) (by kernel_rfl)) ?_
  intro W base args ds gs before hval0 hW hcnd _
  have hval : ∀ (j : Nat) t v, Try.f8.params[j]? = some t → args[j]? = some v → Value.okWide Try.prog W .any base t v := hval0
  have hW' := hW
  obtain ⟨p, q, hA0, hV, rfl, hfz, hnd⟩ := hW
  have hA : DataW.TrodAll enc Try.prog W 0 (fun _ => true) true Try.f8.params.toList args.toList ds p := hA0
  rw [Try.params8] at hA hval
  obtain ⟨v0, vs0, d0, ds0, p0, q0, hargs, rfl, rfl, h0, r0⟩ := trodAll_cons hA
  obtain ⟨rfl, rfl, rfl⟩ := trodAll_nil r0
  obtain rfl : args = #[v0] := by cases args; simp_all
  obtain ⟨rfl, rfl⟩ := trodVars_none hV
  obtain ⟨c0, c1, c2, c3, y0, y1, y2, y3, m0, rfl, rfl, rfl, hy0, hy1, hy2, hy3⟩ := open_agg4 Try.underlying40 (by kernel_rfl) (cells_40) (hval 0 40 v0 rfl rfl) h0
  obtain ⟨x0, e0, rfl, wx0⟩ := DataW.trod_int Try.underlying2 hy0
  obtain ⟨x1, e1, rfl, wx1⟩ := DataW.trod_int Try.underlying2 hy1
  obtain ⟨x2, e2, rfl, wx2⟩ := DataW.trod_int Try.underlying2 hy2
  obtain ⟨x3, e3, rfl, wx3⟩ := DataW.trod_int Try.underlying2 hy3
  simp at e0 e1 e2 e3
  subst e0 e1 e2 e3
  clear hA0 hval0
  simp only [List.append_nil] at hW'
  refine (walk x0 x1 x2 x3 (bds wx0).1 (bds wx0).2 (bds wx1).1 (bds wx1).2 (bds wx2).1 (bds wx2).2 (bds wx3).1 (bds wx3).2 W).mono fun e W' ⟨he, hg⟩ => ?_
  subst he
  exact ⟨_, rfl, post_new (pa := []) (pv := []) hW' (fun _ _ _ => (trodAll_cons_mk (shut_bool Try.underlying4 _) trodAll_mk0)) (fun sp => (trodAll_cons_mk (shut_agg4 (y0 := (.lit (.int .i64 x0), [])) (y1 := (.lit (.int .i64 x1), [])) (y2 := (.lit (.int .i64 x2), [])) (y3 := (.lit (.int .i64 x3), [])) Try.underlying40 (by kernel_rfl) (cells_40) ⟨1, by simp [DataW.trod, Try.underlying2, wx0]⟩ ⟨1, by simp [DataW.trod, Try.underlying2, wx1]⟩ ⟨1, by simp [DataW.trod, Try.underlying2, wx2]⟩ ⟨1, by simp [DataW.trod, Try.underlying2, wx3]⟩) trodAll_mk0)) (fun _ => rfl) rfl (hg.frame _)⟩

theorem proved : Rows.RatBackSaid :=
  OpenClaim.holds_of_wide 8 Try.f8 rfl rfl rfl rfl rfl rfl rfl ⟨rfl, rfl, rfl, rfl, rfl⟩ rfl rfl rfl rfl rfl (by kernel_rfl) Try.func8 (by kernel_rfl)
    (of_decide_eq_true (by kernel_rfl)) (by unfold Func.isWrapper; first | (rw [if_pos (by decide +kernel)]; kernel_rfl) | (rw [if_neg (by decide +kernel)]; exact ⟨rfl, rfl⟩))
    (fun os started H enc _ => lifted os started H enc)

end Go.Proofs.Ytchfnmafladciaa.ratBack
namespace Go.Proofs.Ytchfnmafladciaa
theorem ratBack_holds : Rows.RatBackSaid := ratBack.proved
#print axioms ratBack_holds
end Go.Proofs.Ytchfnmafladciaa
