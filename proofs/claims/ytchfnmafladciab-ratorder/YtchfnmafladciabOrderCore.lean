/- How the law RatOrder runs, given what each of its calls tells. -/
import Derived.Test.YtchfnmafladciabLive
import Derived.Deep.DeepCutAuto
namespace Go.Proofs.Ytchfnmafladciab.ratOrder
open Go.RowKit Go.Shelf
set_option maxRecDepth 100000 in
set_option maxHeartbeats 8000000 in
theorem coreA (A B C D AB U V BC AC N M E X Y F Z T G : Int) (w : World)
    (c1 : Hid (∀ w, Calls Try.prog 4 #[.agg #[.int .i64 A, .int .i64 B], .agg #[.int .i64 C, .int .i64 D]] w fun e w' => e = .returned (.int .i64 AB) ∧ Below w.heap.size w w'))
    (m1 : Hid (∀ w, Calls Try.prog 5 #[.agg #[.int .i64 A, .int .i64 B]] w fun e w' => e = .returned (.bool true) ∧ Below w.heap.size w w')) (m2 : Hid (∀ w, Calls Try.prog 5 #[.agg #[.int .i64 C, .int .i64 D]] w fun e w' => e = .returned (.bool true) ∧ Below w.heap.size w w')) (m3 : Hid (∀ w, Calls Try.prog 5 #[.agg #[.int .i64 U, .int .i64 V]] w fun e w' => e = .returned (.bool true) ∧ Below w.heap.size w w'))
    (c2 : Hid (∀ w, Calls Try.prog 4 #[.agg #[.int .i64 C, .int .i64 D], .agg #[.int .i64 U, .int .i64 V]] w fun e w' => e = .returned (.int .i64 BC) ∧ Below w.heap.size w w')) (c3 : Hid (∀ w, Calls Try.prog 4 #[.agg #[.int .i64 A, .int .i64 B], .agg #[.int .i64 U, .int .i64 V]] w fun e w' => e = .returned (.int .i64 AC) ∧ Below w.heap.size w w')) (c4 : Hid (∀ w, Calls Try.prog 4 #[.agg #[.int .i64 C, .int .i64 D], .agg #[.int .i64 A, .int .i64 B]] w fun e w' => e = .returned (.int .i64 (-AB)) ∧ Below w.heap.size w w'))
    (ss : Hid (∀ w, Calls Try.prog 7 #[.agg #[.int .i64 A, .int .i64 B], .agg #[.int .i64 C, .int .i64 D]] w fun e w' => e = .returned (.tuple #[.agg #[.int .i64 N, .int .i64 M], .int .i64 E]) ∧ Below w.heap.size w w')) (fa : Hid (∀ w, Calls Try.prog 8 #[.agg #[.int .i64 A, .int .i64 B], .agg #[.int .i64 U, .int .i64 V]] w fun e w' => e = .returned (.tuple #[.agg #[.int .i64 X, .int .i64 Y], .int .i64 F]) ∧ Below w.heap.size w w')) (fb : Hid (∀ w, Calls Try.prog 8 #[.agg #[.int .i64 C, .int .i64 D], .agg #[.int .i64 U, .int .i64 V]] w fun e w' => e = .returned (.tuple #[.agg #[.int .i64 Z, .int .i64 T], .int .i64 G]) ∧ Below w.heap.size w w'))
    (kk : F = 0 → G = 0 → Hid (∀ w, Calls Try.prog 4 #[.agg #[.int .i64 X, .int .i64 Y], .agg #[.int .i64 Z, .int .i64 T]] w fun e w' => e = .returned (.int .i64 AB) ∧ Below w.heap.size w w'))
    (hon : AB ≤ 0 → BC ≤ 0 → AC ≤ 0 ∧ ((AB = 0 ∧ BC = 0) ↔ AC = 0)) (hsg : E = 0 → (0 < N ↔ 0 < AB) ∧ (N < 0 ↔ AB < 0)) (b1 : -1 ≤ AB) (b2 : AB ≤ 1) (n0 : (AB == 0) = false) (n1 : (A == C) = false) :
    Calls Try.prog 3 #[.agg #[.int .i64 A, .int .i64 B], .agg #[.int .i64 C, .int .i64 D], .agg #[.int .i64 U, .int .i64 V]] w fun e w' => e = .returned (.bool true) ∧ Below w.heap.size w w' := by
  have KK : Hid (F = 0 → G = 0 → Hid (∀ w, Calls Try.prog 4 #[.agg #[.int .i64 X, .int .i64 Y], .agg #[.int .i64 Z, .int .i64 T]] w fun e w' => e = .returned (.int .i64 AB) ∧ Below w.heap.size w w')) := kk
  have HON : Hid (AB ≤ 0 → BC ≤ 0 → AC ≤ 0 ∧ ((AB = 0 ∧ BC = 0) ↔ AC = 0)) := hon
  have HSG : Hid (E = 0 → (0 < N ↔ 0 < AB) ∧ (N < 0 ↔ AB < 0)) := hsg
  clear kk hon hsg
  go_enter Try.func3, Try.ntmps3
  go_wp2_with fail
  refine (c1.out _).mono ?_
  rintro e w1 ⟨rfl, hb1⟩
  have g1 : Below w.heap.size w w1 := upon (by go_grown) hb1
  have l1 := g1.size
  have ca1_0 := old hb1 (b := w.heap.size) (o := 0) (v := .int .i64 A) (by simp [go_sem]) (by go_size)
  have ca1_1 := old hb1 (b := w.heap.size) (o := 1) (v := .int .i64 B) (by simp [go_sem]) (by go_size)
  have za1 := oldlt hb1 (b := w.heap.size) (by go_size)
  have cb1_0 := old hb1 (b := w.heap.size + 1) (o := 0) (v := .int .i64 C) (by simp [go_sem]) (by go_size)
  have cb1_1 := old hb1 (b := w.heap.size + 1) (o := 1) (v := .int .i64 D) (by simp [go_sem]) (by go_size)
  have zb1 := oldlt hb1 (b := w.heap.size + 1) (by go_size)
  have cc1_0 := old hb1 (b := w.heap.size + 1 + 1) (o := 0) (v := .int .i64 U) (by simp [go_sem]) (by go_size)
  have cc1_1 := old hb1 (b := w.heap.size + 1 + 1) (o := 1) (v := .int .i64 V) (by simp [go_sem]) (by go_size)
  have zc1 := oldlt hb1 (b := w.heap.size + 1 + 1) (by go_size)
  go_wp2_with fail
  refine (m1.out _).mono ?_
  rintro e w2 ⟨rfl, hb2⟩
  have g2 : Below w.heap.size w w2 := upon (by go_grown) hb2
  have l2 := g2.size
  have ca2_0 := old hb2 (b := w.heap.size) (o := 0) (v := .int .i64 A) (by first | (with_reducible exact ca1_0) | simp [go_sem, ca1_0, za1]) (by go_size)
  have ca2_1 := old hb2 (b := w.heap.size) (o := 1) (v := .int .i64 B) (by first | (with_reducible exact ca1_1) | simp [go_sem, ca1_1, za1]) (by go_size)
  have za2 := oldlt hb2 (b := w.heap.size) (by go_size)
  have cb2_0 := old hb2 (b := w.heap.size + 1) (o := 0) (v := .int .i64 C) (by first | (with_reducible exact cb1_0) | simp [go_sem, cb1_0, zb1]) (by go_size)
  have cb2_1 := old hb2 (b := w.heap.size + 1) (o := 1) (v := .int .i64 D) (by first | (with_reducible exact cb1_1) | simp [go_sem, cb1_1, zb1]) (by go_size)
  have zb2 := oldlt hb2 (b := w.heap.size + 1) (by go_size)
  have cc2_0 := old hb2 (b := w.heap.size + 1 + 1) (o := 0) (v := .int .i64 U) (by first | (with_reducible exact cc1_0) | simp [go_sem, cc1_0, zc1]) (by go_size)
  have cc2_1 := old hb2 (b := w.heap.size + 1 + 1) (o := 1) (v := .int .i64 V) (by first | (with_reducible exact cc1_1) | simp [go_sem, cc1_1, zc1]) (by go_size)
  have zc2 := oldlt hb2 (b := w.heap.size + 1 + 1) (by go_size)
  clear ca1_0 ca1_1 za1 cb1_0 cb1_1 zb1 cc1_0 cc1_1 zc1
  go_wp2_with fail
  refine (m2.out _).mono ?_
  rintro e w3 ⟨rfl, hb3⟩
  have g3 : Below w.heap.size w w3 := upon (by go_grown) hb3
  have l3 := g3.size
  have ca3_0 := old hb3 (b := w.heap.size) (o := 0) (v := .int .i64 A) (by first | (with_reducible exact ca2_0) | simp [go_sem, ca2_0, za2]) (by go_size)
  have ca3_1 := old hb3 (b := w.heap.size) (o := 1) (v := .int .i64 B) (by first | (with_reducible exact ca2_1) | simp [go_sem, ca2_1, za2]) (by go_size)
  have za3 := oldlt hb3 (b := w.heap.size) (by go_size)
  have cb3_0 := old hb3 (b := w.heap.size + 1) (o := 0) (v := .int .i64 C) (by first | (with_reducible exact cb2_0) | simp [go_sem, cb2_0, zb2]) (by go_size)
  have cb3_1 := old hb3 (b := w.heap.size + 1) (o := 1) (v := .int .i64 D) (by first | (with_reducible exact cb2_1) | simp [go_sem, cb2_1, zb2]) (by go_size)
  have zb3 := oldlt hb3 (b := w.heap.size + 1) (by go_size)
  have cc3_0 := old hb3 (b := w.heap.size + 1 + 1) (o := 0) (v := .int .i64 U) (by first | (with_reducible exact cc2_0) | simp [go_sem, cc2_0, zc2]) (by go_size)
  have cc3_1 := old hb3 (b := w.heap.size + 1 + 1) (o := 1) (v := .int .i64 V) (by first | (with_reducible exact cc2_1) | simp [go_sem, cc2_1, zc2]) (by go_size)
  have zc3 := oldlt hb3 (b := w.heap.size + 1 + 1) (by go_size)
  clear ca2_0 ca2_1 za2 cb2_0 cb2_1 zb2 cc2_0 cc2_1 zc2
  go_wp2_with fail
  refine (m3.out _).mono ?_
  rintro e w4 ⟨rfl, hb4⟩
  have g4 : Below w.heap.size w w4 := upon (by go_grown) hb4
  have l4 := g4.size
  have ca4_0 := old hb4 (b := w.heap.size) (o := 0) (v := .int .i64 A) (by first | (with_reducible exact ca3_0) | simp [go_sem, ca3_0, za3]) (by go_size)
  have ca4_1 := old hb4 (b := w.heap.size) (o := 1) (v := .int .i64 B) (by first | (with_reducible exact ca3_1) | simp [go_sem, ca3_1, za3]) (by go_size)
  have za4 := oldlt hb4 (b := w.heap.size) (by go_size)
  have cb4_0 := old hb4 (b := w.heap.size + 1) (o := 0) (v := .int .i64 C) (by first | (with_reducible exact cb3_0) | simp [go_sem, cb3_0, zb3]) (by go_size)
  have cb4_1 := old hb4 (b := w.heap.size + 1) (o := 1) (v := .int .i64 D) (by first | (with_reducible exact cb3_1) | simp [go_sem, cb3_1, zb3]) (by go_size)
  have zb4 := oldlt hb4 (b := w.heap.size + 1) (by go_size)
  have cc4_0 := old hb4 (b := w.heap.size + 1 + 1) (o := 0) (v := .int .i64 U) (by first | (with_reducible exact cc3_0) | simp [go_sem, cc3_0, zc3]) (by go_size)
  have cc4_1 := old hb4 (b := w.heap.size + 1 + 1) (o := 1) (v := .int .i64 V) (by first | (with_reducible exact cc3_1) | simp [go_sem, cc3_1, zc3]) (by go_size)
  have zc4 := oldlt hb4 (b := w.heap.size + 1 + 1) (by go_size)
  clear ca3_0 ca3_1 za3 cb3_0 cb3_1 zb3 cc3_0 cc3_1 zc3
  go_wp2_with fail
  refine (c2.out _).mono ?_
  rintro e w5 ⟨rfl, hb5⟩
  have g5 : Below w.heap.size w w5 := upon (by go_grown) hb5
  have l5 := g5.size
  have ca5_0 := old hb5 (b := w.heap.size) (o := 0) (v := .int .i64 A) (by first | (with_reducible exact ca4_0) | simp [go_sem, ca4_0, za4]) (by go_size)
  have ca5_1 := old hb5 (b := w.heap.size) (o := 1) (v := .int .i64 B) (by first | (with_reducible exact ca4_1) | simp [go_sem, ca4_1, za4]) (by go_size)
  have za5 := oldlt hb5 (b := w.heap.size) (by go_size)
  have cb5_0 := old hb5 (b := w.heap.size + 1) (o := 0) (v := .int .i64 C) (by first | (with_reducible exact cb4_0) | simp [go_sem, cb4_0, zb4]) (by go_size)
  have cb5_1 := old hb5 (b := w.heap.size + 1) (o := 1) (v := .int .i64 D) (by first | (with_reducible exact cb4_1) | simp [go_sem, cb4_1, zb4]) (by go_size)
  have zb5 := oldlt hb5 (b := w.heap.size + 1) (by go_size)
  have cc5_0 := old hb5 (b := w.heap.size + 1 + 1) (o := 0) (v := .int .i64 U) (by first | (with_reducible exact cc4_0) | simp [go_sem, cc4_0, zc4]) (by go_size)
  have cc5_1 := old hb5 (b := w.heap.size + 1 + 1) (o := 1) (v := .int .i64 V) (by first | (with_reducible exact cc4_1) | simp [go_sem, cc4_1, zc4]) (by go_size)
  have zc5 := oldlt hb5 (b := w.heap.size + 1 + 1) (by go_size)
  clear ca4_0 ca4_1 za4 cb4_0 cb4_1 zb4 cc4_0 cc4_1 zc4
  go_wp2_with fail
  refine (c3.out _).mono ?_
  rintro e w6 ⟨rfl, hb6⟩
  have g6 : Below w.heap.size w w6 := upon (by go_grown) hb6
  have l6 := g6.size
  have ca6_0 := old hb6 (b := w.heap.size) (o := 0) (v := .int .i64 A) (by first | (with_reducible exact ca5_0) | simp [go_sem, ca5_0, za5]) (by go_size)
  have ca6_1 := old hb6 (b := w.heap.size) (o := 1) (v := .int .i64 B) (by first | (with_reducible exact ca5_1) | simp [go_sem, ca5_1, za5]) (by go_size)
  have za6 := oldlt hb6 (b := w.heap.size) (by go_size)
  have cb6_0 := old hb6 (b := w.heap.size + 1) (o := 0) (v := .int .i64 C) (by first | (with_reducible exact cb5_0) | simp [go_sem, cb5_0, zb5]) (by go_size)
  have cb6_1 := old hb6 (b := w.heap.size + 1) (o := 1) (v := .int .i64 D) (by first | (with_reducible exact cb5_1) | simp [go_sem, cb5_1, zb5]) (by go_size)
  have zb6 := oldlt hb6 (b := w.heap.size + 1) (by go_size)
  have cc6_0 := old hb6 (b := w.heap.size + 1 + 1) (o := 0) (v := .int .i64 U) (by first | (with_reducible exact cc5_0) | simp [go_sem, cc5_0, zc5]) (by go_size)
  have cc6_1 := old hb6 (b := w.heap.size + 1 + 1) (o := 1) (v := .int .i64 V) (by first | (with_reducible exact cc5_1) | simp [go_sem, cc5_1, zc5]) (by go_size)
  have zc6 := oldlt hb6 (b := w.heap.size + 1 + 1) (by go_size)
  clear ca5_0 ca5_1 za5 cb5_0 cb5_1 zb5 cc5_0 cc5_1 zc5
  go_wp2_with fail
  refine (c4.out _).mono ?_
  rintro e w7 ⟨rfl, hb7⟩
  have g7 : Below w.heap.size w w7 := upon (by go_grown) hb7
  have l7 := g7.size
  have ca7_0 := old hb7 (b := w.heap.size) (o := 0) (v := .int .i64 A) (by first | (with_reducible exact ca6_0) | simp [go_sem, ca6_0, za6]) (by go_size)
  have ca7_1 := old hb7 (b := w.heap.size) (o := 1) (v := .int .i64 B) (by first | (with_reducible exact ca6_1) | simp [go_sem, ca6_1, za6]) (by go_size)
  have za7 := oldlt hb7 (b := w.heap.size) (by go_size)
  have cb7_0 := old hb7 (b := w.heap.size + 1) (o := 0) (v := .int .i64 C) (by first | (with_reducible exact cb6_0) | simp [go_sem, cb6_0, zb6]) (by go_size)
  have cb7_1 := old hb7 (b := w.heap.size + 1) (o := 1) (v := .int .i64 D) (by first | (with_reducible exact cb6_1) | simp [go_sem, cb6_1, zb6]) (by go_size)
  have zb7 := oldlt hb7 (b := w.heap.size + 1) (by go_size)
  have cc7_0 := old hb7 (b := w.heap.size + 1 + 1) (o := 0) (v := .int .i64 U) (by first | (with_reducible exact cc6_0) | simp [go_sem, cc6_0, zc6]) (by go_size)
  have cc7_1 := old hb7 (b := w.heap.size + 1 + 1) (o := 1) (v := .int .i64 V) (by first | (with_reducible exact cc6_1) | simp [go_sem, cc6_1, zc6]) (by go_size)
  have zc7 := oldlt hb7 (b := w.heap.size + 1 + 1) (by go_size)
  clear ca6_0 ca6_1 za6 cb6_0 cb6_1 zb6 cc6_0 cc6_1 zc6
  go_upto_region 7 with fail
  go_cut [11] (fun a wx => a = .bool true ∧ wx = w7)
  case first =>
    by_cases h1 : 0 < AB
    · go_wp2
      go_meet
      case rel => exact ⟨rfl, rfl⟩
    · by_cases h2 : 0 < BC
      · go_wp2
        go_meet
        case rel => exact ⟨rfl, rfl⟩
      · obtain ⟨h3, h4⟩ := HON.out (by omega) (by omega)
        by_cases h5 : AC = 0
        · obtain ⟨h6, h7⟩ := h4.2 h5
          exact absurd h6 (by simpa using n0)
        · have h10 : (AC == 0) = false := by simpa using h5
          clear h4 h5 HON
          go_wp2
          go_meet
          case rel => exact ⟨rfl, rfl⟩
  case rest =>
    obtain ⟨rfl, rfl⟩ := hcut
    go_wp2_with fail
    refine (ss.out _).mono ?_
    rintro e w8 ⟨rfl, hb8⟩
    have g8 : Below w.heap.size w w8 := upon (by go_grown) hb8
    have l8 := g8.size
    have ca8_0 := old hb8 (b := w.heap.size) (o := 0) (v := .int .i64 A) (by first | (with_reducible exact ca7_0) | simp [go_sem, ca7_0, za7]) (by go_size)
    have ca8_1 := old hb8 (b := w.heap.size) (o := 1) (v := .int .i64 B) (by first | (with_reducible exact ca7_1) | simp [go_sem, ca7_1, za7]) (by go_size)
    have za8 := oldlt hb8 (b := w.heap.size) (by go_size)
    have cb8_0 := old hb8 (b := w.heap.size + 1) (o := 0) (v := .int .i64 C) (by first | (with_reducible exact cb7_0) | simp [go_sem, cb7_0, zb7]) (by go_size)
    have cb8_1 := old hb8 (b := w.heap.size + 1) (o := 1) (v := .int .i64 D) (by first | (with_reducible exact cb7_1) | simp [go_sem, cb7_1, zb7]) (by go_size)
    have zb8 := oldlt hb8 (b := w.heap.size + 1) (by go_size)
    have cc8_0 := old hb8 (b := w.heap.size + 1 + 1) (o := 0) (v := .int .i64 U) (by first | (with_reducible exact cc7_0) | simp [go_sem, cc7_0, zc7]) (by go_size)
    have cc8_1 := old hb8 (b := w.heap.size + 1 + 1) (o := 1) (v := .int .i64 V) (by first | (with_reducible exact cc7_1) | simp [go_sem, cc7_1, zc7]) (by go_size)
    have zc8 := oldlt hb8 (b := w.heap.size + 1 + 1) (by go_size)
    clear ca7_0 ca7_1 za7 cb7_0 cb7_1 zb7 cc7_0 cc7_1 zc7
    go_upto_region 9 with fail
    go_cut [14] (fun a wx => a = .bool true ∧ wx = w8.alloc (Obj.cells #[.int .i64 N, .int .i64 M] 23))
    case first =>
      by_cases hE : E = 0
      · subst hE
        obtain ⟨i1, i2⟩ := HSG.out rfl
        have j1 : decide (0 < N) = decide (0 < AB) := by rw [decide_eq_decide]; exact i1
        have j2 : decide (N < 0) = decide (AB < 0) := by rw [decide_eq_decide]; exact i2
        clear i1 i2 HSG
        by_cases u1 : 0 < AB
        · have u2 : ¬ AB < 0 := by omega
          simp only [u1, u2, decide_true, decide_false, decide_eq_true_eq, decide_eq_false_iff_not] at j1 j2
          go_wp2
          go_meet
          case rel => exact ⟨rfl, rfl⟩
        · by_cases u2 : AB < 0
          · simp only [u1, u2, decide_true, decide_false, decide_eq_true_eq, decide_eq_false_iff_not] at j1 j2
            go_wp2
            go_meet
            case rel => exact ⟨rfl, rfl⟩
          · simp only [u1, u2, decide_false, decide_eq_false_iff_not] at j1 j2
            go_wp2
            go_meet
            case rel => exact ⟨rfl, rfl⟩
      · have hE0 : (E != 0) = true := by simpa using hE
        go_wp2
        go_meet
        case rel => exact ⟨rfl, rfl⟩
    case rest =>
      obtain ⟨rfl, rfl⟩ := hcut
      go_wp2_with fail
      refine (fa.out _).mono ?_
      rintro e w9 ⟨rfl, hb9⟩
      have g9 : Below w.heap.size w w9 := upon (by go_grown) hb9
      have l9 := g9.size
      have ca9_0 := old hb9 (b := w.heap.size) (o := 0) (v := .int .i64 A) (by first | (with_reducible exact ca8_0) | simp [go_sem, ca8_0, za8]) (by go_size)
      have ca9_1 := old hb9 (b := w.heap.size) (o := 1) (v := .int .i64 B) (by first | (with_reducible exact ca8_1) | simp [go_sem, ca8_1, za8]) (by go_size)
      have za9 := oldlt hb9 (b := w.heap.size) (by go_size)
      have cb9_0 := old hb9 (b := w.heap.size + 1) (o := 0) (v := .int .i64 C) (by first | (with_reducible exact cb8_0) | simp [go_sem, cb8_0, zb8]) (by go_size)
      have cb9_1 := old hb9 (b := w.heap.size + 1) (o := 1) (v := .int .i64 D) (by first | (with_reducible exact cb8_1) | simp [go_sem, cb8_1, zb8]) (by go_size)
      have zb9 := oldlt hb9 (b := w.heap.size + 1) (by go_size)
      have cc9_0 := old hb9 (b := w.heap.size + 1 + 1) (o := 0) (v := .int .i64 U) (by first | (with_reducible exact cc8_0) | simp [go_sem, cc8_0, zc8]) (by go_size)
      have cc9_1 := old hb9 (b := w.heap.size + 1 + 1) (o := 1) (v := .int .i64 V) (by first | (with_reducible exact cc8_1) | simp [go_sem, cc8_1, zc8]) (by go_size)
      have zc9 := oldlt hb9 (b := w.heap.size + 1 + 1) (by go_size)
      clear ca8_0 ca8_1 za8 cb8_0 cb8_1 zb8 cc8_0 cc8_1 zc8
      go_wp2_with fail
      refine (fb.out _).mono ?_
      rintro e w10 ⟨rfl, hb10⟩
      have g10 : Below w.heap.size w w10 := upon (by go_grown) hb10
      have l10 := g10.size
      have cx10_0 := old hb10 (b := w9.heap.size) (o := 0) (v := .int .i64 X) (by simp [go_sem]) (by go_size)
      have cx10_1 := old hb10 (b := w9.heap.size) (o := 1) (v := .int .i64 Y) (by simp [go_sem]) (by go_size)
      have zx10 := oldlt hb10 (b := w9.heap.size) (by go_size)
      clear ca9_0 ca9_1 za9 cb9_0 cb9_1 zb9 cc9_0 cc9_1 zc9
      by_cases hF : F = 0
      · subst hF
        by_cases hG : G = 0
        · subst hG
          have K1 := KK.out rfl rfl
          clear KK
          go_wp2_with fail
          refine (K1.out _).mono ?_
          rintro e w11 ⟨rfl, hb11⟩
          have g11 : Below w.heap.size w w11 := upon (by go_grown) hb11
          have l11 := g11.size
          clear cx10_0 cx10_1 zx10
          go_wp2_with fail
          refine (live_any _).mono ?_
          rintro e w12 ⟨rfl, hb12⟩
          have g12 : Below w.heap.size w w12 := upon (by go_grown) hb12
          have l12 := g12.size
          go_wp2
          go_ret
          exact ⟨rfl, g12⟩
        · have hG0 : (G != 0) = true := by simpa using hG
          go_wp2_with fail
          refine (live_any _).mono ?_
          rintro e w11 ⟨rfl, hb11⟩
          have g11 : Below w.heap.size w w11 := upon (by go_grown) hb11
          have l11 := g11.size
          clear cx10_0 cx10_1 zx10
          go_wp2
          go_ret
          exact ⟨rfl, g11⟩
      · have hF0 : (F != 0) = true := by simpa using hF
        go_wp2_with fail
        refine (live_any _).mono ?_
        rintro e w11 ⟨rfl, hb11⟩
        have g11 : Below w.heap.size w w11 := upon (by go_grown) hb11
        have l11 := g11.size
        clear cx10_0 cx10_1 zx10
        go_wp2
        go_ret
        exact ⟨rfl, g11⟩

set_option maxRecDepth 100000 in
set_option maxHeartbeats 8000000 in
theorem coreB (A B C D AB U V BC AC N M E X Y F Z T G : Int) (w : World)
    (c1 : Hid (∀ w, Calls Try.prog 4 #[.agg #[.int .i64 A, .int .i64 B], .agg #[.int .i64 C, .int .i64 D]] w fun e w' => e = .returned (.int .i64 AB) ∧ Below w.heap.size w w'))
    (m1 : Hid (∀ w, Calls Try.prog 5 #[.agg #[.int .i64 A, .int .i64 B]] w fun e w' => e = .returned (.bool true) ∧ Below w.heap.size w w')) (m2 : Hid (∀ w, Calls Try.prog 5 #[.agg #[.int .i64 C, .int .i64 D]] w fun e w' => e = .returned (.bool true) ∧ Below w.heap.size w w')) (m3 : Hid (∀ w, Calls Try.prog 5 #[.agg #[.int .i64 U, .int .i64 V]] w fun e w' => e = .returned (.bool true) ∧ Below w.heap.size w w'))
    (c2 : Hid (∀ w, Calls Try.prog 4 #[.agg #[.int .i64 C, .int .i64 D], .agg #[.int .i64 U, .int .i64 V]] w fun e w' => e = .returned (.int .i64 BC) ∧ Below w.heap.size w w')) (c3 : Hid (∀ w, Calls Try.prog 4 #[.agg #[.int .i64 A, .int .i64 B], .agg #[.int .i64 U, .int .i64 V]] w fun e w' => e = .returned (.int .i64 AC) ∧ Below w.heap.size w w')) (c4 : Hid (∀ w, Calls Try.prog 4 #[.agg #[.int .i64 C, .int .i64 D], .agg #[.int .i64 A, .int .i64 B]] w fun e w' => e = .returned (.int .i64 (-AB)) ∧ Below w.heap.size w w'))
    (ss : Hid (∀ w, Calls Try.prog 7 #[.agg #[.int .i64 A, .int .i64 B], .agg #[.int .i64 C, .int .i64 D]] w fun e w' => e = .returned (.tuple #[.agg #[.int .i64 N, .int .i64 M], .int .i64 E]) ∧ Below w.heap.size w w')) (fa : Hid (∀ w, Calls Try.prog 8 #[.agg #[.int .i64 A, .int .i64 B], .agg #[.int .i64 U, .int .i64 V]] w fun e w' => e = .returned (.tuple #[.agg #[.int .i64 X, .int .i64 Y], .int .i64 F]) ∧ Below w.heap.size w w')) (fb : Hid (∀ w, Calls Try.prog 8 #[.agg #[.int .i64 C, .int .i64 D], .agg #[.int .i64 U, .int .i64 V]] w fun e w' => e = .returned (.tuple #[.agg #[.int .i64 Z, .int .i64 T], .int .i64 G]) ∧ Below w.heap.size w w'))
    (kk : F = 0 → G = 0 → Hid (∀ w, Calls Try.prog 4 #[.agg #[.int .i64 X, .int .i64 Y], .agg #[.int .i64 Z, .int .i64 T]] w fun e w' => e = .returned (.int .i64 AB) ∧ Below w.heap.size w w'))
    (hon : AB ≤ 0 → BC ≤ 0 → AC ≤ 0 ∧ ((AB = 0 ∧ BC = 0) ↔ AC = 0)) (hsg : E = 0 → (0 < N ↔ 0 < AB) ∧ (N < 0 ↔ AB < 0)) (b1 : -1 ≤ AB) (b2 : AB ≤ 1) (n0 : (AB == 0) = false) (n1 : (A == C) = true) (n2 : (B == D) = false) :
    Calls Try.prog 3 #[.agg #[.int .i64 A, .int .i64 B], .agg #[.int .i64 C, .int .i64 D], .agg #[.int .i64 U, .int .i64 V]] w fun e w' => e = .returned (.bool true) ∧ Below w.heap.size w w' := by
  have KK : Hid (F = 0 → G = 0 → Hid (∀ w, Calls Try.prog 4 #[.agg #[.int .i64 X, .int .i64 Y], .agg #[.int .i64 Z, .int .i64 T]] w fun e w' => e = .returned (.int .i64 AB) ∧ Below w.heap.size w w')) := kk
  have HON : Hid (AB ≤ 0 → BC ≤ 0 → AC ≤ 0 ∧ ((AB = 0 ∧ BC = 0) ↔ AC = 0)) := hon
  have HSG : Hid (E = 0 → (0 < N ↔ 0 < AB) ∧ (N < 0 ↔ AB < 0)) := hsg
  clear kk hon hsg
  go_enter Try.func3, Try.ntmps3
  go_wp2_with fail
  refine (c1.out _).mono ?_
  rintro e w1 ⟨rfl, hb1⟩
  have g1 : Below w.heap.size w w1 := upon (by go_grown) hb1
  have l1 := g1.size
  have ca1_0 := old hb1 (b := w.heap.size) (o := 0) (v := .int .i64 A) (by simp [go_sem]) (by go_size)
  have ca1_1 := old hb1 (b := w.heap.size) (o := 1) (v := .int .i64 B) (by simp [go_sem]) (by go_size)
  have za1 := oldlt hb1 (b := w.heap.size) (by go_size)
  have cb1_0 := old hb1 (b := w.heap.size + 1) (o := 0) (v := .int .i64 C) (by simp [go_sem]) (by go_size)
  have cb1_1 := old hb1 (b := w.heap.size + 1) (o := 1) (v := .int .i64 D) (by simp [go_sem]) (by go_size)
  have zb1 := oldlt hb1 (b := w.heap.size + 1) (by go_size)
  have cc1_0 := old hb1 (b := w.heap.size + 1 + 1) (o := 0) (v := .int .i64 U) (by simp [go_sem]) (by go_size)
  have cc1_1 := old hb1 (b := w.heap.size + 1 + 1) (o := 1) (v := .int .i64 V) (by simp [go_sem]) (by go_size)
  have zc1 := oldlt hb1 (b := w.heap.size + 1 + 1) (by go_size)
  go_wp2_with fail
  refine (m1.out _).mono ?_
  rintro e w2 ⟨rfl, hb2⟩
  have g2 : Below w.heap.size w w2 := upon (by go_grown) hb2
  have l2 := g2.size
  have ca2_0 := old hb2 (b := w.heap.size) (o := 0) (v := .int .i64 A) (by first | (with_reducible exact ca1_0) | simp [go_sem, ca1_0, za1]) (by go_size)
  have ca2_1 := old hb2 (b := w.heap.size) (o := 1) (v := .int .i64 B) (by first | (with_reducible exact ca1_1) | simp [go_sem, ca1_1, za1]) (by go_size)
  have za2 := oldlt hb2 (b := w.heap.size) (by go_size)
  have cb2_0 := old hb2 (b := w.heap.size + 1) (o := 0) (v := .int .i64 C) (by first | (with_reducible exact cb1_0) | simp [go_sem, cb1_0, zb1]) (by go_size)
  have cb2_1 := old hb2 (b := w.heap.size + 1) (o := 1) (v := .int .i64 D) (by first | (with_reducible exact cb1_1) | simp [go_sem, cb1_1, zb1]) (by go_size)
  have zb2 := oldlt hb2 (b := w.heap.size + 1) (by go_size)
  have cc2_0 := old hb2 (b := w.heap.size + 1 + 1) (o := 0) (v := .int .i64 U) (by first | (with_reducible exact cc1_0) | simp [go_sem, cc1_0, zc1]) (by go_size)
  have cc2_1 := old hb2 (b := w.heap.size + 1 + 1) (o := 1) (v := .int .i64 V) (by first | (with_reducible exact cc1_1) | simp [go_sem, cc1_1, zc1]) (by go_size)
  have zc2 := oldlt hb2 (b := w.heap.size + 1 + 1) (by go_size)
  clear ca1_0 ca1_1 za1 cb1_0 cb1_1 zb1 cc1_0 cc1_1 zc1
  go_wp2_with fail
  refine (m2.out _).mono ?_
  rintro e w3 ⟨rfl, hb3⟩
  have g3 : Below w.heap.size w w3 := upon (by go_grown) hb3
  have l3 := g3.size
  have ca3_0 := old hb3 (b := w.heap.size) (o := 0) (v := .int .i64 A) (by first | (with_reducible exact ca2_0) | simp [go_sem, ca2_0, za2]) (by go_size)
  have ca3_1 := old hb3 (b := w.heap.size) (o := 1) (v := .int .i64 B) (by first | (with_reducible exact ca2_1) | simp [go_sem, ca2_1, za2]) (by go_size)
  have za3 := oldlt hb3 (b := w.heap.size) (by go_size)
  have cb3_0 := old hb3 (b := w.heap.size + 1) (o := 0) (v := .int .i64 C) (by first | (with_reducible exact cb2_0) | simp [go_sem, cb2_0, zb2]) (by go_size)
  have cb3_1 := old hb3 (b := w.heap.size + 1) (o := 1) (v := .int .i64 D) (by first | (with_reducible exact cb2_1) | simp [go_sem, cb2_1, zb2]) (by go_size)
  have zb3 := oldlt hb3 (b := w.heap.size + 1) (by go_size)
  have cc3_0 := old hb3 (b := w.heap.size + 1 + 1) (o := 0) (v := .int .i64 U) (by first | (with_reducible exact cc2_0) | simp [go_sem, cc2_0, zc2]) (by go_size)
  have cc3_1 := old hb3 (b := w.heap.size + 1 + 1) (o := 1) (v := .int .i64 V) (by first | (with_reducible exact cc2_1) | simp [go_sem, cc2_1, zc2]) (by go_size)
  have zc3 := oldlt hb3 (b := w.heap.size + 1 + 1) (by go_size)
  clear ca2_0 ca2_1 za2 cb2_0 cb2_1 zb2 cc2_0 cc2_1 zc2
  go_wp2_with fail
  refine (m3.out _).mono ?_
  rintro e w4 ⟨rfl, hb4⟩
  have g4 : Below w.heap.size w w4 := upon (by go_grown) hb4
  have l4 := g4.size
  have ca4_0 := old hb4 (b := w.heap.size) (o := 0) (v := .int .i64 A) (by first | (with_reducible exact ca3_0) | simp [go_sem, ca3_0, za3]) (by go_size)
  have ca4_1 := old hb4 (b := w.heap.size) (o := 1) (v := .int .i64 B) (by first | (with_reducible exact ca3_1) | simp [go_sem, ca3_1, za3]) (by go_size)
  have za4 := oldlt hb4 (b := w.heap.size) (by go_size)
  have cb4_0 := old hb4 (b := w.heap.size + 1) (o := 0) (v := .int .i64 C) (by first | (with_reducible exact cb3_0) | simp [go_sem, cb3_0, zb3]) (by go_size)
  have cb4_1 := old hb4 (b := w.heap.size + 1) (o := 1) (v := .int .i64 D) (by first | (with_reducible exact cb3_1) | simp [go_sem, cb3_1, zb3]) (by go_size)
  have zb4 := oldlt hb4 (b := w.heap.size + 1) (by go_size)
  have cc4_0 := old hb4 (b := w.heap.size + 1 + 1) (o := 0) (v := .int .i64 U) (by first | (with_reducible exact cc3_0) | simp [go_sem, cc3_0, zc3]) (by go_size)
  have cc4_1 := old hb4 (b := w.heap.size + 1 + 1) (o := 1) (v := .int .i64 V) (by first | (with_reducible exact cc3_1) | simp [go_sem, cc3_1, zc3]) (by go_size)
  have zc4 := oldlt hb4 (b := w.heap.size + 1 + 1) (by go_size)
  clear ca3_0 ca3_1 za3 cb3_0 cb3_1 zb3 cc3_0 cc3_1 zc3
  go_wp2_with fail
  refine (c2.out _).mono ?_
  rintro e w5 ⟨rfl, hb5⟩
  have g5 : Below w.heap.size w w5 := upon (by go_grown) hb5
  have l5 := g5.size
  have ca5_0 := old hb5 (b := w.heap.size) (o := 0) (v := .int .i64 A) (by first | (with_reducible exact ca4_0) | simp [go_sem, ca4_0, za4]) (by go_size)
  have ca5_1 := old hb5 (b := w.heap.size) (o := 1) (v := .int .i64 B) (by first | (with_reducible exact ca4_1) | simp [go_sem, ca4_1, za4]) (by go_size)
  have za5 := oldlt hb5 (b := w.heap.size) (by go_size)
  have cb5_0 := old hb5 (b := w.heap.size + 1) (o := 0) (v := .int .i64 C) (by first | (with_reducible exact cb4_0) | simp [go_sem, cb4_0, zb4]) (by go_size)
  have cb5_1 := old hb5 (b := w.heap.size + 1) (o := 1) (v := .int .i64 D) (by first | (with_reducible exact cb4_1) | simp [go_sem, cb4_1, zb4]) (by go_size)
  have zb5 := oldlt hb5 (b := w.heap.size + 1) (by go_size)
  have cc5_0 := old hb5 (b := w.heap.size + 1 + 1) (o := 0) (v := .int .i64 U) (by first | (with_reducible exact cc4_0) | simp [go_sem, cc4_0, zc4]) (by go_size)
  have cc5_1 := old hb5 (b := w.heap.size + 1 + 1) (o := 1) (v := .int .i64 V) (by first | (with_reducible exact cc4_1) | simp [go_sem, cc4_1, zc4]) (by go_size)
  have zc5 := oldlt hb5 (b := w.heap.size + 1 + 1) (by go_size)
  clear ca4_0 ca4_1 za4 cb4_0 cb4_1 zb4 cc4_0 cc4_1 zc4
  go_wp2_with fail
  refine (c3.out _).mono ?_
  rintro e w6 ⟨rfl, hb6⟩
  have g6 : Below w.heap.size w w6 := upon (by go_grown) hb6
  have l6 := g6.size
  have ca6_0 := old hb6 (b := w.heap.size) (o := 0) (v := .int .i64 A) (by first | (with_reducible exact ca5_0) | simp [go_sem, ca5_0, za5]) (by go_size)
  have ca6_1 := old hb6 (b := w.heap.size) (o := 1) (v := .int .i64 B) (by first | (with_reducible exact ca5_1) | simp [go_sem, ca5_1, za5]) (by go_size)
  have za6 := oldlt hb6 (b := w.heap.size) (by go_size)
  have cb6_0 := old hb6 (b := w.heap.size + 1) (o := 0) (v := .int .i64 C) (by first | (with_reducible exact cb5_0) | simp [go_sem, cb5_0, zb5]) (by go_size)
  have cb6_1 := old hb6 (b := w.heap.size + 1) (o := 1) (v := .int .i64 D) (by first | (with_reducible exact cb5_1) | simp [go_sem, cb5_1, zb5]) (by go_size)
  have zb6 := oldlt hb6 (b := w.heap.size + 1) (by go_size)
  have cc6_0 := old hb6 (b := w.heap.size + 1 + 1) (o := 0) (v := .int .i64 U) (by first | (with_reducible exact cc5_0) | simp [go_sem, cc5_0, zc5]) (by go_size)
  have cc6_1 := old hb6 (b := w.heap.size + 1 + 1) (o := 1) (v := .int .i64 V) (by first | (with_reducible exact cc5_1) | simp [go_sem, cc5_1, zc5]) (by go_size)
  have zc6 := oldlt hb6 (b := w.heap.size + 1 + 1) (by go_size)
  clear ca5_0 ca5_1 za5 cb5_0 cb5_1 zb5 cc5_0 cc5_1 zc5
  go_wp2_with fail
  refine (c4.out _).mono ?_
  rintro e w7 ⟨rfl, hb7⟩
  have g7 : Below w.heap.size w w7 := upon (by go_grown) hb7
  have l7 := g7.size
  have ca7_0 := old hb7 (b := w.heap.size) (o := 0) (v := .int .i64 A) (by first | (with_reducible exact ca6_0) | simp [go_sem, ca6_0, za6]) (by go_size)
  have ca7_1 := old hb7 (b := w.heap.size) (o := 1) (v := .int .i64 B) (by first | (with_reducible exact ca6_1) | simp [go_sem, ca6_1, za6]) (by go_size)
  have za7 := oldlt hb7 (b := w.heap.size) (by go_size)
  have cb7_0 := old hb7 (b := w.heap.size + 1) (o := 0) (v := .int .i64 C) (by first | (with_reducible exact cb6_0) | simp [go_sem, cb6_0, zb6]) (by go_size)
  have cb7_1 := old hb7 (b := w.heap.size + 1) (o := 1) (v := .int .i64 D) (by first | (with_reducible exact cb6_1) | simp [go_sem, cb6_1, zb6]) (by go_size)
  have zb7 := oldlt hb7 (b := w.heap.size + 1) (by go_size)
  have cc7_0 := old hb7 (b := w.heap.size + 1 + 1) (o := 0) (v := .int .i64 U) (by first | (with_reducible exact cc6_0) | simp [go_sem, cc6_0, zc6]) (by go_size)
  have cc7_1 := old hb7 (b := w.heap.size + 1 + 1) (o := 1) (v := .int .i64 V) (by first | (with_reducible exact cc6_1) | simp [go_sem, cc6_1, zc6]) (by go_size)
  have zc7 := oldlt hb7 (b := w.heap.size + 1 + 1) (by go_size)
  clear ca6_0 ca6_1 za6 cb6_0 cb6_1 zb6 cc6_0 cc6_1 zc6
  go_upto_region 7 with fail
  go_cut [11] (fun a wx => a = .bool true ∧ wx = w7)
  case first =>
    by_cases h1 : 0 < AB
    · go_wp2
      go_meet
      case rel => exact ⟨rfl, rfl⟩
    · by_cases h2 : 0 < BC
      · go_wp2
        go_meet
        case rel => exact ⟨rfl, rfl⟩
      · obtain ⟨h3, h4⟩ := HON.out (by omega) (by omega)
        by_cases h5 : AC = 0
        · obtain ⟨h6, h7⟩ := h4.2 h5
          exact absurd h6 (by simpa using n0)
        · have h10 : (AC == 0) = false := by simpa using h5
          clear h4 h5 HON
          go_wp2
          go_meet
          case rel => exact ⟨rfl, rfl⟩
  case rest =>
    obtain ⟨rfl, rfl⟩ := hcut
    go_wp2_with fail
    refine (ss.out _).mono ?_
    rintro e w8 ⟨rfl, hb8⟩
    have g8 : Below w.heap.size w w8 := upon (by go_grown) hb8
    have l8 := g8.size
    have ca8_0 := old hb8 (b := w.heap.size) (o := 0) (v := .int .i64 A) (by first | (with_reducible exact ca7_0) | simp [go_sem, ca7_0, za7]) (by go_size)
    have ca8_1 := old hb8 (b := w.heap.size) (o := 1) (v := .int .i64 B) (by first | (with_reducible exact ca7_1) | simp [go_sem, ca7_1, za7]) (by go_size)
    have za8 := oldlt hb8 (b := w.heap.size) (by go_size)
    have cb8_0 := old hb8 (b := w.heap.size + 1) (o := 0) (v := .int .i64 C) (by first | (with_reducible exact cb7_0) | simp [go_sem, cb7_0, zb7]) (by go_size)
    have cb8_1 := old hb8 (b := w.heap.size + 1) (o := 1) (v := .int .i64 D) (by first | (with_reducible exact cb7_1) | simp [go_sem, cb7_1, zb7]) (by go_size)
    have zb8 := oldlt hb8 (b := w.heap.size + 1) (by go_size)
    have cc8_0 := old hb8 (b := w.heap.size + 1 + 1) (o := 0) (v := .int .i64 U) (by first | (with_reducible exact cc7_0) | simp [go_sem, cc7_0, zc7]) (by go_size)
    have cc8_1 := old hb8 (b := w.heap.size + 1 + 1) (o := 1) (v := .int .i64 V) (by first | (with_reducible exact cc7_1) | simp [go_sem, cc7_1, zc7]) (by go_size)
    have zc8 := oldlt hb8 (b := w.heap.size + 1 + 1) (by go_size)
    clear ca7_0 ca7_1 za7 cb7_0 cb7_1 zb7 cc7_0 cc7_1 zc7
    go_upto_region 9 with fail
    go_cut [14] (fun a wx => a = .bool true ∧ wx = w8.alloc (Obj.cells #[.int .i64 N, .int .i64 M] 23))
    case first =>
      by_cases hE : E = 0
      · subst hE
        obtain ⟨i1, i2⟩ := HSG.out rfl
        have j1 : decide (0 < N) = decide (0 < AB) := by rw [decide_eq_decide]; exact i1
        have j2 : decide (N < 0) = decide (AB < 0) := by rw [decide_eq_decide]; exact i2
        clear i1 i2 HSG
        by_cases u1 : 0 < AB
        · have u2 : ¬ AB < 0 := by omega
          simp only [u1, u2, decide_true, decide_false, decide_eq_true_eq, decide_eq_false_iff_not] at j1 j2
          go_wp2
          go_meet
          case rel => exact ⟨rfl, rfl⟩
        · by_cases u2 : AB < 0
          · simp only [u1, u2, decide_true, decide_false, decide_eq_true_eq, decide_eq_false_iff_not] at j1 j2
            go_wp2
            go_meet
            case rel => exact ⟨rfl, rfl⟩
          · simp only [u1, u2, decide_false, decide_eq_false_iff_not] at j1 j2
            go_wp2
            go_meet
            case rel => exact ⟨rfl, rfl⟩
      · have hE0 : (E != 0) = true := by simpa using hE
        go_wp2
        go_meet
        case rel => exact ⟨rfl, rfl⟩
    case rest =>
      obtain ⟨rfl, rfl⟩ := hcut
      go_wp2_with fail
      refine (fa.out _).mono ?_
      rintro e w9 ⟨rfl, hb9⟩
      have g9 : Below w.heap.size w w9 := upon (by go_grown) hb9
      have l9 := g9.size
      have ca9_0 := old hb9 (b := w.heap.size) (o := 0) (v := .int .i64 A) (by first | (with_reducible exact ca8_0) | simp [go_sem, ca8_0, za8]) (by go_size)
      have ca9_1 := old hb9 (b := w.heap.size) (o := 1) (v := .int .i64 B) (by first | (with_reducible exact ca8_1) | simp [go_sem, ca8_1, za8]) (by go_size)
      have za9 := oldlt hb9 (b := w.heap.size) (by go_size)
      have cb9_0 := old hb9 (b := w.heap.size + 1) (o := 0) (v := .int .i64 C) (by first | (with_reducible exact cb8_0) | simp [go_sem, cb8_0, zb8]) (by go_size)
      have cb9_1 := old hb9 (b := w.heap.size + 1) (o := 1) (v := .int .i64 D) (by first | (with_reducible exact cb8_1) | simp [go_sem, cb8_1, zb8]) (by go_size)
      have zb9 := oldlt hb9 (b := w.heap.size + 1) (by go_size)
      have cc9_0 := old hb9 (b := w.heap.size + 1 + 1) (o := 0) (v := .int .i64 U) (by first | (with_reducible exact cc8_0) | simp [go_sem, cc8_0, zc8]) (by go_size)
      have cc9_1 := old hb9 (b := w.heap.size + 1 + 1) (o := 1) (v := .int .i64 V) (by first | (with_reducible exact cc8_1) | simp [go_sem, cc8_1, zc8]) (by go_size)
      have zc9 := oldlt hb9 (b := w.heap.size + 1 + 1) (by go_size)
      clear ca8_0 ca8_1 za8 cb8_0 cb8_1 zb8 cc8_0 cc8_1 zc8
      go_wp2_with fail
      refine (fb.out _).mono ?_
      rintro e w10 ⟨rfl, hb10⟩
      have g10 : Below w.heap.size w w10 := upon (by go_grown) hb10
      have l10 := g10.size
      have cx10_0 := old hb10 (b := w9.heap.size) (o := 0) (v := .int .i64 X) (by simp [go_sem]) (by go_size)
      have cx10_1 := old hb10 (b := w9.heap.size) (o := 1) (v := .int .i64 Y) (by simp [go_sem]) (by go_size)
      have zx10 := oldlt hb10 (b := w9.heap.size) (by go_size)
      clear ca9_0 ca9_1 za9 cb9_0 cb9_1 zb9 cc9_0 cc9_1 zc9
      by_cases hF : F = 0
      · subst hF
        by_cases hG : G = 0
        · subst hG
          have K1 := KK.out rfl rfl
          clear KK
          go_wp2_with fail
          refine (K1.out _).mono ?_
          rintro e w11 ⟨rfl, hb11⟩
          have g11 : Below w.heap.size w w11 := upon (by go_grown) hb11
          have l11 := g11.size
          clear cx10_0 cx10_1 zx10
          go_wp2_with fail
          refine (live_any _).mono ?_
          rintro e w12 ⟨rfl, hb12⟩
          have g12 : Below w.heap.size w w12 := upon (by go_grown) hb12
          have l12 := g12.size
          go_wp2
          go_ret
          exact ⟨rfl, g12⟩
        · have hG0 : (G != 0) = true := by simpa using hG
          go_wp2_with fail
          refine (live_any _).mono ?_
          rintro e w11 ⟨rfl, hb11⟩
          have g11 : Below w.heap.size w w11 := upon (by go_grown) hb11
          have l11 := g11.size
          clear cx10_0 cx10_1 zx10
          go_wp2
          go_ret
          exact ⟨rfl, g11⟩
      · have hF0 : (F != 0) = true := by simpa using hF
        go_wp2_with fail
        refine (live_any _).mono ?_
        rintro e w11 ⟨rfl, hb11⟩
        have g11 : Below w.heap.size w w11 := upon (by go_grown) hb11
        have l11 := g11.size
        clear cx10_0 cx10_1 zx10
        go_wp2
        go_ret
        exact ⟨rfl, g11⟩

set_option maxRecDepth 100000 in
set_option maxHeartbeats 8000000 in
theorem coreC (A B U V BC AC N M E X Y F Z T G : Int) (w : World)
    (c1 : Hid (∀ w, Calls Try.prog 4 #[.agg #[.int .i64 A, .int .i64 B], .agg #[.int .i64 A, .int .i64 B]] w fun e w' => e = .returned (.int .i64 0) ∧ Below w.heap.size w w'))
    (m1 : Hid (∀ w, Calls Try.prog 5 #[.agg #[.int .i64 A, .int .i64 B]] w fun e w' => e = .returned (.bool true) ∧ Below w.heap.size w w')) (m2 : Hid (∀ w, Calls Try.prog 5 #[.agg #[.int .i64 A, .int .i64 B]] w fun e w' => e = .returned (.bool true) ∧ Below w.heap.size w w')) (m3 : Hid (∀ w, Calls Try.prog 5 #[.agg #[.int .i64 U, .int .i64 V]] w fun e w' => e = .returned (.bool true) ∧ Below w.heap.size w w'))
    (c2 : Hid (∀ w, Calls Try.prog 4 #[.agg #[.int .i64 A, .int .i64 B], .agg #[.int .i64 U, .int .i64 V]] w fun e w' => e = .returned (.int .i64 BC) ∧ Below w.heap.size w w')) (c3 : Hid (∀ w, Calls Try.prog 4 #[.agg #[.int .i64 A, .int .i64 B], .agg #[.int .i64 U, .int .i64 V]] w fun e w' => e = .returned (.int .i64 AC) ∧ Below w.heap.size w w')) (c4 : Hid (∀ w, Calls Try.prog 4 #[.agg #[.int .i64 A, .int .i64 B], .agg #[.int .i64 A, .int .i64 B]] w fun e w' => e = .returned (.int .i64 0) ∧ Below w.heap.size w w'))
    (ss : Hid (∀ w, Calls Try.prog 7 #[.agg #[.int .i64 A, .int .i64 B], .agg #[.int .i64 A, .int .i64 B]] w fun e w' => e = .returned (.tuple #[.agg #[.int .i64 N, .int .i64 M], .int .i64 E]) ∧ Below w.heap.size w w')) (fa : Hid (∀ w, Calls Try.prog 8 #[.agg #[.int .i64 A, .int .i64 B], .agg #[.int .i64 U, .int .i64 V]] w fun e w' => e = .returned (.tuple #[.agg #[.int .i64 X, .int .i64 Y], .int .i64 F]) ∧ Below w.heap.size w w')) (fb : Hid (∀ w, Calls Try.prog 8 #[.agg #[.int .i64 A, .int .i64 B], .agg #[.int .i64 U, .int .i64 V]] w fun e w' => e = .returned (.tuple #[.agg #[.int .i64 Z, .int .i64 T], .int .i64 G]) ∧ Below w.heap.size w w'))
    (kk : F = 0 → G = 0 → Hid (∀ w, Calls Try.prog 4 #[.agg #[.int .i64 X, .int .i64 Y], .agg #[.int .i64 Z, .int .i64 T]] w fun e w' => e = .returned (.int .i64 0) ∧ Below w.heap.size w w'))
    (hon : BC ≤ 0 → AC ≤ 0 ∧ (BC = 0 ↔ AC = 0)) (hsg : E = 0 → ¬ 0 < N ∧ ¬ N < 0) :
    Calls Try.prog 3 #[.agg #[.int .i64 A, .int .i64 B], .agg #[.int .i64 A, .int .i64 B], .agg #[.int .i64 U, .int .i64 V]] w fun e w' => e = .returned (.bool true) ∧ Below w.heap.size w w' := by
  have KK : Hid (F = 0 → G = 0 → Hid (∀ w, Calls Try.prog 4 #[.agg #[.int .i64 X, .int .i64 Y], .agg #[.int .i64 Z, .int .i64 T]] w fun e w' => e = .returned (.int .i64 0) ∧ Below w.heap.size w w')) := kk
  have HON : Hid (BC ≤ 0 → AC ≤ 0 ∧ (BC = 0 ↔ AC = 0)) := hon
  have HSG : Hid (E = 0 → ¬ 0 < N ∧ ¬ N < 0) := hsg
  clear kk hon hsg
  go_enter Try.func3, Try.ntmps3
  go_wp2_with fail
  refine (c1.out _).mono ?_
  rintro e w1 ⟨rfl, hb1⟩
  have g1 : Below w.heap.size w w1 := upon (by go_grown) hb1
  have l1 := g1.size
  have ca1_0 := old hb1 (b := w.heap.size) (o := 0) (v := .int .i64 A) (by simp [go_sem]) (by go_size)
  have ca1_1 := old hb1 (b := w.heap.size) (o := 1) (v := .int .i64 B) (by simp [go_sem]) (by go_size)
  have za1 := oldlt hb1 (b := w.heap.size) (by go_size)
  have cb1_0 := old hb1 (b := w.heap.size + 1) (o := 0) (v := .int .i64 A) (by simp [go_sem]) (by go_size)
  have cb1_1 := old hb1 (b := w.heap.size + 1) (o := 1) (v := .int .i64 B) (by simp [go_sem]) (by go_size)
  have zb1 := oldlt hb1 (b := w.heap.size + 1) (by go_size)
  have cc1_0 := old hb1 (b := w.heap.size + 1 + 1) (o := 0) (v := .int .i64 U) (by simp [go_sem]) (by go_size)
  have cc1_1 := old hb1 (b := w.heap.size + 1 + 1) (o := 1) (v := .int .i64 V) (by simp [go_sem]) (by go_size)
  have zc1 := oldlt hb1 (b := w.heap.size + 1 + 1) (by go_size)
  go_wp2_with fail
  refine (m1.out _).mono ?_
  rintro e w2 ⟨rfl, hb2⟩
  have g2 : Below w.heap.size w w2 := upon (by go_grown) hb2
  have l2 := g2.size
  have ca2_0 := old hb2 (b := w.heap.size) (o := 0) (v := .int .i64 A) (by first | (with_reducible exact ca1_0) | simp [go_sem, ca1_0, za1]) (by go_size)
  have ca2_1 := old hb2 (b := w.heap.size) (o := 1) (v := .int .i64 B) (by first | (with_reducible exact ca1_1) | simp [go_sem, ca1_1, za1]) (by go_size)
  have za2 := oldlt hb2 (b := w.heap.size) (by go_size)
  have cb2_0 := old hb2 (b := w.heap.size + 1) (o := 0) (v := .int .i64 A) (by first | (with_reducible exact cb1_0) | simp [go_sem, cb1_0, zb1]) (by go_size)
  have cb2_1 := old hb2 (b := w.heap.size + 1) (o := 1) (v := .int .i64 B) (by first | (with_reducible exact cb1_1) | simp [go_sem, cb1_1, zb1]) (by go_size)
  have zb2 := oldlt hb2 (b := w.heap.size + 1) (by go_size)
  have cc2_0 := old hb2 (b := w.heap.size + 1 + 1) (o := 0) (v := .int .i64 U) (by first | (with_reducible exact cc1_0) | simp [go_sem, cc1_0, zc1]) (by go_size)
  have cc2_1 := old hb2 (b := w.heap.size + 1 + 1) (o := 1) (v := .int .i64 V) (by first | (with_reducible exact cc1_1) | simp [go_sem, cc1_1, zc1]) (by go_size)
  have zc2 := oldlt hb2 (b := w.heap.size + 1 + 1) (by go_size)
  clear ca1_0 ca1_1 za1 cb1_0 cb1_1 zb1 cc1_0 cc1_1 zc1
  go_wp2_with fail
  refine (m2.out _).mono ?_
  rintro e w3 ⟨rfl, hb3⟩
  have g3 : Below w.heap.size w w3 := upon (by go_grown) hb3
  have l3 := g3.size
  have ca3_0 := old hb3 (b := w.heap.size) (o := 0) (v := .int .i64 A) (by first | (with_reducible exact ca2_0) | simp [go_sem, ca2_0, za2]) (by go_size)
  have ca3_1 := old hb3 (b := w.heap.size) (o := 1) (v := .int .i64 B) (by first | (with_reducible exact ca2_1) | simp [go_sem, ca2_1, za2]) (by go_size)
  have za3 := oldlt hb3 (b := w.heap.size) (by go_size)
  have cb3_0 := old hb3 (b := w.heap.size + 1) (o := 0) (v := .int .i64 A) (by first | (with_reducible exact cb2_0) | simp [go_sem, cb2_0, zb2]) (by go_size)
  have cb3_1 := old hb3 (b := w.heap.size + 1) (o := 1) (v := .int .i64 B) (by first | (with_reducible exact cb2_1) | simp [go_sem, cb2_1, zb2]) (by go_size)
  have zb3 := oldlt hb3 (b := w.heap.size + 1) (by go_size)
  have cc3_0 := old hb3 (b := w.heap.size + 1 + 1) (o := 0) (v := .int .i64 U) (by first | (with_reducible exact cc2_0) | simp [go_sem, cc2_0, zc2]) (by go_size)
  have cc3_1 := old hb3 (b := w.heap.size + 1 + 1) (o := 1) (v := .int .i64 V) (by first | (with_reducible exact cc2_1) | simp [go_sem, cc2_1, zc2]) (by go_size)
  have zc3 := oldlt hb3 (b := w.heap.size + 1 + 1) (by go_size)
  clear ca2_0 ca2_1 za2 cb2_0 cb2_1 zb2 cc2_0 cc2_1 zc2
  go_wp2_with fail
  refine (m3.out _).mono ?_
  rintro e w4 ⟨rfl, hb4⟩
  have g4 : Below w.heap.size w w4 := upon (by go_grown) hb4
  have l4 := g4.size
  have ca4_0 := old hb4 (b := w.heap.size) (o := 0) (v := .int .i64 A) (by first | (with_reducible exact ca3_0) | simp [go_sem, ca3_0, za3]) (by go_size)
  have ca4_1 := old hb4 (b := w.heap.size) (o := 1) (v := .int .i64 B) (by first | (with_reducible exact ca3_1) | simp [go_sem, ca3_1, za3]) (by go_size)
  have za4 := oldlt hb4 (b := w.heap.size) (by go_size)
  have cb4_0 := old hb4 (b := w.heap.size + 1) (o := 0) (v := .int .i64 A) (by first | (with_reducible exact cb3_0) | simp [go_sem, cb3_0, zb3]) (by go_size)
  have cb4_1 := old hb4 (b := w.heap.size + 1) (o := 1) (v := .int .i64 B) (by first | (with_reducible exact cb3_1) | simp [go_sem, cb3_1, zb3]) (by go_size)
  have zb4 := oldlt hb4 (b := w.heap.size + 1) (by go_size)
  have cc4_0 := old hb4 (b := w.heap.size + 1 + 1) (o := 0) (v := .int .i64 U) (by first | (with_reducible exact cc3_0) | simp [go_sem, cc3_0, zc3]) (by go_size)
  have cc4_1 := old hb4 (b := w.heap.size + 1 + 1) (o := 1) (v := .int .i64 V) (by first | (with_reducible exact cc3_1) | simp [go_sem, cc3_1, zc3]) (by go_size)
  have zc4 := oldlt hb4 (b := w.heap.size + 1 + 1) (by go_size)
  clear ca3_0 ca3_1 za3 cb3_0 cb3_1 zb3 cc3_0 cc3_1 zc3
  go_wp2_with fail
  refine (c2.out _).mono ?_
  rintro e w5 ⟨rfl, hb5⟩
  have g5 : Below w.heap.size w w5 := upon (by go_grown) hb5
  have l5 := g5.size
  have ca5_0 := old hb5 (b := w.heap.size) (o := 0) (v := .int .i64 A) (by first | (with_reducible exact ca4_0) | simp [go_sem, ca4_0, za4]) (by go_size)
  have ca5_1 := old hb5 (b := w.heap.size) (o := 1) (v := .int .i64 B) (by first | (with_reducible exact ca4_1) | simp [go_sem, ca4_1, za4]) (by go_size)
  have za5 := oldlt hb5 (b := w.heap.size) (by go_size)
  have cb5_0 := old hb5 (b := w.heap.size + 1) (o := 0) (v := .int .i64 A) (by first | (with_reducible exact cb4_0) | simp [go_sem, cb4_0, zb4]) (by go_size)
  have cb5_1 := old hb5 (b := w.heap.size + 1) (o := 1) (v := .int .i64 B) (by first | (with_reducible exact cb4_1) | simp [go_sem, cb4_1, zb4]) (by go_size)
  have zb5 := oldlt hb5 (b := w.heap.size + 1) (by go_size)
  have cc5_0 := old hb5 (b := w.heap.size + 1 + 1) (o := 0) (v := .int .i64 U) (by first | (with_reducible exact cc4_0) | simp [go_sem, cc4_0, zc4]) (by go_size)
  have cc5_1 := old hb5 (b := w.heap.size + 1 + 1) (o := 1) (v := .int .i64 V) (by first | (with_reducible exact cc4_1) | simp [go_sem, cc4_1, zc4]) (by go_size)
  have zc5 := oldlt hb5 (b := w.heap.size + 1 + 1) (by go_size)
  clear ca4_0 ca4_1 za4 cb4_0 cb4_1 zb4 cc4_0 cc4_1 zc4
  go_wp2_with fail
  refine (c3.out _).mono ?_
  rintro e w6 ⟨rfl, hb6⟩
  have g6 : Below w.heap.size w w6 := upon (by go_grown) hb6
  have l6 := g6.size
  have ca6_0 := old hb6 (b := w.heap.size) (o := 0) (v := .int .i64 A) (by first | (with_reducible exact ca5_0) | simp [go_sem, ca5_0, za5]) (by go_size)
  have ca6_1 := old hb6 (b := w.heap.size) (o := 1) (v := .int .i64 B) (by first | (with_reducible exact ca5_1) | simp [go_sem, ca5_1, za5]) (by go_size)
  have za6 := oldlt hb6 (b := w.heap.size) (by go_size)
  have cb6_0 := old hb6 (b := w.heap.size + 1) (o := 0) (v := .int .i64 A) (by first | (with_reducible exact cb5_0) | simp [go_sem, cb5_0, zb5]) (by go_size)
  have cb6_1 := old hb6 (b := w.heap.size + 1) (o := 1) (v := .int .i64 B) (by first | (with_reducible exact cb5_1) | simp [go_sem, cb5_1, zb5]) (by go_size)
  have zb6 := oldlt hb6 (b := w.heap.size + 1) (by go_size)
  have cc6_0 := old hb6 (b := w.heap.size + 1 + 1) (o := 0) (v := .int .i64 U) (by first | (with_reducible exact cc5_0) | simp [go_sem, cc5_0, zc5]) (by go_size)
  have cc6_1 := old hb6 (b := w.heap.size + 1 + 1) (o := 1) (v := .int .i64 V) (by first | (with_reducible exact cc5_1) | simp [go_sem, cc5_1, zc5]) (by go_size)
  have zc6 := oldlt hb6 (b := w.heap.size + 1 + 1) (by go_size)
  clear ca5_0 ca5_1 za5 cb5_0 cb5_1 zb5 cc5_0 cc5_1 zc5
  go_wp2_with fail
  refine (c4.out _).mono ?_
  rintro e w7 ⟨rfl, hb7⟩
  have g7 : Below w.heap.size w w7 := upon (by go_grown) hb7
  have l7 := g7.size
  have ca7_0 := old hb7 (b := w.heap.size) (o := 0) (v := .int .i64 A) (by first | (with_reducible exact ca6_0) | simp [go_sem, ca6_0, za6]) (by go_size)
  have ca7_1 := old hb7 (b := w.heap.size) (o := 1) (v := .int .i64 B) (by first | (with_reducible exact ca6_1) | simp [go_sem, ca6_1, za6]) (by go_size)
  have za7 := oldlt hb7 (b := w.heap.size) (by go_size)
  have cb7_0 := old hb7 (b := w.heap.size + 1) (o := 0) (v := .int .i64 A) (by first | (with_reducible exact cb6_0) | simp [go_sem, cb6_0, zb6]) (by go_size)
  have cb7_1 := old hb7 (b := w.heap.size + 1) (o := 1) (v := .int .i64 B) (by first | (with_reducible exact cb6_1) | simp [go_sem, cb6_1, zb6]) (by go_size)
  have zb7 := oldlt hb7 (b := w.heap.size + 1) (by go_size)
  have cc7_0 := old hb7 (b := w.heap.size + 1 + 1) (o := 0) (v := .int .i64 U) (by first | (with_reducible exact cc6_0) | simp [go_sem, cc6_0, zc6]) (by go_size)
  have cc7_1 := old hb7 (b := w.heap.size + 1 + 1) (o := 1) (v := .int .i64 V) (by first | (with_reducible exact cc6_1) | simp [go_sem, cc6_1, zc6]) (by go_size)
  have zc7 := oldlt hb7 (b := w.heap.size + 1 + 1) (by go_size)
  clear ca6_0 ca6_1 za6 cb6_0 cb6_1 zb6 cc6_0 cc6_1 zc6
  go_upto_region 7 with fail
  go_cut [11] (fun a wx => a = .bool true ∧ wx = w7)
  case first =>
    by_cases h2 : 0 < BC
    · go_wp2
      go_meet
      case rel => exact ⟨rfl, rfl⟩
    · obtain ⟨h3, h4⟩ := HON.out (by omega)
      by_cases h5 : AC = 0
      · have h7 := h4.2 h5
        have h9 : (BC == 0) = true := by simp [h7]
        have h10 : (AC == 0) = true := by simp [h5]
        clear h4 h5 h7 HON
        go_wp2
        go_meet
        case rel => exact ⟨rfl, rfl⟩
      · have h10 : (AC == 0) = false := by simpa using h5
        have h7 : ¬ BC = 0 := fun h => h5 (h4.1 h)
        have h9 : (BC == 0) = false := by simpa using h7
        clear h4 h5 h7 HON
        go_wp2
        go_meet
        case rel => exact ⟨rfl, rfl⟩
  case rest =>
    obtain ⟨rfl, rfl⟩ := hcut
    go_wp2_with fail
    refine (ss.out _).mono ?_
    rintro e w8 ⟨rfl, hb8⟩
    have g8 : Below w.heap.size w w8 := upon (by go_grown) hb8
    have l8 := g8.size
    have ca8_0 := old hb8 (b := w.heap.size) (o := 0) (v := .int .i64 A) (by first | (with_reducible exact ca7_0) | simp [go_sem, ca7_0, za7]) (by go_size)
    have ca8_1 := old hb8 (b := w.heap.size) (o := 1) (v := .int .i64 B) (by first | (with_reducible exact ca7_1) | simp [go_sem, ca7_1, za7]) (by go_size)
    have za8 := oldlt hb8 (b := w.heap.size) (by go_size)
    have cb8_0 := old hb8 (b := w.heap.size + 1) (o := 0) (v := .int .i64 A) (by first | (with_reducible exact cb7_0) | simp [go_sem, cb7_0, zb7]) (by go_size)
    have cb8_1 := old hb8 (b := w.heap.size + 1) (o := 1) (v := .int .i64 B) (by first | (with_reducible exact cb7_1) | simp [go_sem, cb7_1, zb7]) (by go_size)
    have zb8 := oldlt hb8 (b := w.heap.size + 1) (by go_size)
    have cc8_0 := old hb8 (b := w.heap.size + 1 + 1) (o := 0) (v := .int .i64 U) (by first | (with_reducible exact cc7_0) | simp [go_sem, cc7_0, zc7]) (by go_size)
    have cc8_1 := old hb8 (b := w.heap.size + 1 + 1) (o := 1) (v := .int .i64 V) (by first | (with_reducible exact cc7_1) | simp [go_sem, cc7_1, zc7]) (by go_size)
    have zc8 := oldlt hb8 (b := w.heap.size + 1 + 1) (by go_size)
    clear ca7_0 ca7_1 za7 cb7_0 cb7_1 zb7 cc7_0 cc7_1 zc7
    go_upto_region 9 with fail
    go_cut [14] (fun a wx => a = .bool true ∧ wx = w8.alloc (Obj.cells #[.int .i64 N, .int .i64 M] 23))
    case first =>
      by_cases hE : E = 0
      · subst hE
        obtain ⟨i1, i2⟩ := HSG.out rfl
        clear HSG
        go_wp2
        go_meet
        case rel => exact ⟨congrArg Value.bool (by simp; omega), rfl⟩
      · have hE0 : (E != 0) = true := by simpa using hE
        go_wp2
        go_meet
        case rel => exact ⟨rfl, rfl⟩
    case rest =>
      obtain ⟨rfl, rfl⟩ := hcut
      go_wp2_with fail
      refine (fa.out _).mono ?_
      rintro e w9 ⟨rfl, hb9⟩
      have g9 : Below w.heap.size w w9 := upon (by go_grown) hb9
      have l9 := g9.size
      have ca9_0 := old hb9 (b := w.heap.size) (o := 0) (v := .int .i64 A) (by first | (with_reducible exact ca8_0) | simp [go_sem, ca8_0, za8]) (by go_size)
      have ca9_1 := old hb9 (b := w.heap.size) (o := 1) (v := .int .i64 B) (by first | (with_reducible exact ca8_1) | simp [go_sem, ca8_1, za8]) (by go_size)
      have za9 := oldlt hb9 (b := w.heap.size) (by go_size)
      have cb9_0 := old hb9 (b := w.heap.size + 1) (o := 0) (v := .int .i64 A) (by first | (with_reducible exact cb8_0) | simp [go_sem, cb8_0, zb8]) (by go_size)
      have cb9_1 := old hb9 (b := w.heap.size + 1) (o := 1) (v := .int .i64 B) (by first | (with_reducible exact cb8_1) | simp [go_sem, cb8_1, zb8]) (by go_size)
      have zb9 := oldlt hb9 (b := w.heap.size + 1) (by go_size)
      have cc9_0 := old hb9 (b := w.heap.size + 1 + 1) (o := 0) (v := .int .i64 U) (by first | (with_reducible exact cc8_0) | simp [go_sem, cc8_0, zc8]) (by go_size)
      have cc9_1 := old hb9 (b := w.heap.size + 1 + 1) (o := 1) (v := .int .i64 V) (by first | (with_reducible exact cc8_1) | simp [go_sem, cc8_1, zc8]) (by go_size)
      have zc9 := oldlt hb9 (b := w.heap.size + 1 + 1) (by go_size)
      clear ca8_0 ca8_1 za8 cb8_0 cb8_1 zb8 cc8_0 cc8_1 zc8
      go_wp2_with fail
      refine (fb.out _).mono ?_
      rintro e w10 ⟨rfl, hb10⟩
      have g10 : Below w.heap.size w w10 := upon (by go_grown) hb10
      have l10 := g10.size
      have cx10_0 := old hb10 (b := w9.heap.size) (o := 0) (v := .int .i64 X) (by simp [go_sem]) (by go_size)
      have cx10_1 := old hb10 (b := w9.heap.size) (o := 1) (v := .int .i64 Y) (by simp [go_sem]) (by go_size)
      have zx10 := oldlt hb10 (b := w9.heap.size) (by go_size)
      clear ca9_0 ca9_1 za9 cb9_0 cb9_1 zb9 cc9_0 cc9_1 zc9
      by_cases hF : F = 0
      · subst hF
        by_cases hG : G = 0
        · subst hG
          have K1 := KK.out rfl rfl
          clear KK
          go_wp2_with fail
          refine (K1.out _).mono ?_
          rintro e w11 ⟨rfl, hb11⟩
          have g11 : Below w.heap.size w w11 := upon (by go_grown) hb11
          have l11 := g11.size
          clear cx10_0 cx10_1 zx10
          go_wp2_with fail
          refine (live_any _).mono ?_
          rintro e w12 ⟨rfl, hb12⟩
          have g12 : Below w.heap.size w w12 := upon (by go_grown) hb12
          have l12 := g12.size
          go_wp2
          go_ret
          exact ⟨rfl, g12⟩
        · have hG0 : (G != 0) = true := by simpa using hG
          go_wp2_with fail
          refine (live_any _).mono ?_
          rintro e w11 ⟨rfl, hb11⟩
          have g11 : Below w.heap.size w w11 := upon (by go_grown) hb11
          have l11 := g11.size
          clear cx10_0 cx10_1 zx10
          go_wp2
          go_ret
          exact ⟨rfl, g11⟩
      · have hF0 : (F != 0) = true := by simpa using hF
        go_wp2_with fail
        refine (live_any _).mono ?_
        rintro e w11 ⟨rfl, hb11⟩
        have g11 : Below w.heap.size w w11 := upon (by go_grown) hb11
        have l11 := g11.size
        clear cx10_0 cx10_1 zx10
        go_wp2
        go_ret
        exact ⟨rfl, g11⟩

end Go.Proofs.Ytchfnmafladciab.ratOrder
