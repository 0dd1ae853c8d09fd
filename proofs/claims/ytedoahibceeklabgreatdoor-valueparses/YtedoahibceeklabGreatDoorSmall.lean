/- What the small functions of the package rat do: size, divisor, fit. -/
import Derived.Test.YtedoahibceeklabGreatDoorRows
import Derived.Test.YtedoahibceeklabGreatDoorMath
import Derived.WalkKit
import Derived.WalkSpells
import Derived.WalkLawsBesides
import Derived.Handy
import Derived.BigQuiet
import Derived.Deep.QuietTactic
namespace Go.Proofs.YtedoahibceeklabGreatDoor
open Go.RowKit

theorem ret_int {k : IntKind} {a b : Int} (h : a = b) : Ending.returned (.int k a) = .returned (.int k b) := by rw [h]

theorem bdrewN {B : Nat} {a w : World} (n : Nat) (h : Below B a w) : Below B a (w.drewN n) := ⟨h.os, h.tape, h.output, h.size, h.block⟩

/-- What a caller knows of the world behind a callee that only makes new memory: old cells and marks, the heap's size, and that nothing older has turned. -/
theorem bf {w W w1 : World} (h0 : Below w.heap.size w W) (hb : Below W.heap.size W w1) :
    (∀ b o, b < W.heap.size → w1.cell? ⟨b, o, none⟩ = W.cell? ⟨b, o, none⟩) ∧ (∀ b o, b < W.heap.size → w1.frozen? ⟨b, o, none⟩ = W.frozen? ⟨b, o, none⟩) ∧ W.heap.size ≤ w1.heap.size ∧ Below w.heap.size w w1 :=
  ⟨fun b o h => hb.cell (p := ⟨b, o, none⟩) h, fun b o h => hb.frozen (p := ⟨b, o, none⟩) h, hb.size, h0.trans (hb.mono h0.size)⟩

set_option maxHeartbeats 400000 in
theorem size_any (n : Int) (w : World) (h1 : -9223372036854775808 ≤ n) (h2 : n ≤ 9223372036854775807) :
    Calls Tryz.prog 67 #[.int .i64 n] w fun e w' => e = .returned (.int .u64 (sz n)) ∧ w' = w := by
  by_cases h : n < 0
  · go_enter Tryz.func67, Tryz.ntmps67
    go_wp2
    go_ret
    exact ⟨ret_int (by rw [sz_of_neg h]; go_arith), rfl⟩
  · have h' : 0 ≤ n := by omega
    go_enter Tryz.func67, Tryz.ntmps67
    go_wp2
    go_ret
    exact ⟨ret_int (by rw [sz_of_nonneg h']), rfl⟩

set_option maxHeartbeats 400000 in
theorem divisor_any (a b : Int) (w : World) (ha : 0 ≤ a) (hb : 0 ≤ b) (ha' : a ≤ 18446744073709551615) (hb' : b ≤ 18446744073709551615) :
    Calls Tryz.prog 68 #[.int .u64 a, .int .u64 b] w fun e w' => e = .returned (.int .u64 (gc a b)) ∧ ∃ k, w' = w.drewN k := by
  go_enter Tryz.func68, Tryz.ntmps68
  go_wp2
  go_loopw [0, 1] (fun u v wr => ∃ x y : Int, 0 ≤ x ∧ 0 ≤ y ∧ x ≤ 18446744073709551615 ∧ y ≤ 18446744073709551615 ∧ Hid (gc x y = gc a b) ∧ u = .int .u64 x ∧ v = .int .u64 y ∧ ∃ k, wr = w.drewN k) (fun _ v _ => (intOf v).toNat)
  case atStart => exact ⟨a, b, ha, hb, ha', hb', rfl, rfl, rfl, 0, rfl⟩
  case round =>
    obtain ⟨x, y, hx, hy, hx', hy', hg, rfl, rfl, k, rfl⟩ := hrel
    by_cases hz : y = 0
    · subst hz
      go_wp2
      go_ret
      exact ⟨ret_int (by rw [← hg.out, gc_zero _ hx]), k, rfl⟩
    · have hz' : (y != 0) = true := by simpa using hz
      have hp : 0 < y := by omega
      go_wp2
      go_quiet (fail)
      go_wp2
      exact ⟨⟨y, x % y, hy, Int.emod_nonneg _ hz, hy', by have := Int.emod_lt_of_pos x hp; omega, (gc_step x y hx hp).trans hg.out, rfl, rfl, k + nq, World.drewN_drewN ..⟩, by have := Int.emod_lt_of_pos x hp; have := Int.emod_nonneg x hz; simp [intOf]; omega⟩

theorem out_yes {p q : Int} (h1 : -9223372036854775808 ≤ p) (h2 : p ≤ 9223372036854775807) (h3 : q ≤ 9223372036854775807) : outN p q = p ∧ outD p q = q ∧ outE p q = 0 := by
  have h : okF p q = true := by simp [okF]; omega
  simp [outN, outD, outE, h]
theorem out_no {p q : Int} (h : ¬ (-9223372036854775808 ≤ p ∧ p ≤ 9223372036854775807 ∧ q ≤ 9223372036854775807)) : outN p q = 0 ∧ outD p q = 0 ∧ outE p q = 10 := by
  have h : okF p q = false := by simp [okF]; omega
  simp [outN, outD, outE, h]

theorem ret_frac {a b c a' b' c' : Int} (h1 : a = a') (h2 : b = b') (h3 : c = c') : Ending.returned (.tuple #[.agg #[.int .i64 a, .int .i64 b], .int .i64 c]) = Ending.returned (.tuple #[.agg #[.int .i64 a', .int .i64 b'], .int .i64 c']) := by rw [h1, h2, h3]

set_option maxHeartbeats 1000000 in
theorem fit_any (b : Bool) (n d : Int) (w : World) (h0 : 0 ≤ n) (h1 : n ≤ 18446744073709551615) (g0 : 0 ≤ d) (g1 : d ≤ 18446744073709551615) :
    Calls Tryz.prog 69 #[.agg #[.bool b, .int .u64 n, .int .u64 d]] w fun e w' => e = .returned (.tuple #[.agg #[.int .i64 (outN (sg b n) d), .int .i64 (outD (sg b n) d)], .int .i64 (outE (sg b n) d)]) ∧ Below w.heap.size w w' := by
  cases b
  · by_cases a1 : n ≤ 9223372036854775807
    · by_cases a2 : d ≤ 9223372036854775807
      · obtain ⟨e1, e2, e3⟩ := out_yes (p := n) (q := d) (by omega) a1 a2
        have H1 : Hid (outN (sg false n) d = n) := e1
        have H2 : Hid (outD (sg false n) d = d) := e2
        have H3 : Hid (outE (sg false n) d = 0) := e3
        clear e1 e2 e3
        go_enter Tryz.func69, Tryz.ntmps69
        go_wp2
        go_returns
        exact ⟨ret_frac H1.out.symm H2.out.symm H3.out.symm, by go_grown⟩
      · obtain ⟨e1, e2, e3⟩ := out_no (p := n) (q := d) (by omega)
        have H1 : Hid (outN (sg false n) d = 0) := e1
        have H2 : Hid (outD (sg false n) d = 0) := e2
        have H3 : Hid (outE (sg false n) d = 10) := e3
        clear e1 e2 e3
        go_enter Tryz.func69, Tryz.ntmps69
        go_wp2
        go_returns
        exact ⟨ret_frac H1.out.symm H2.out.symm H3.out.symm, by go_grown⟩
    · obtain ⟨e1, e2, e3⟩ := out_no (p := n) (q := d) (by omega)
      have H1 : Hid (outN (sg false n) d = 0) := e1
      have H2 : Hid (outD (sg false n) d = 0) := e2
      have H3 : Hid (outE (sg false n) d = 10) := e3
      clear e1 e2 e3
      go_enter Tryz.func69, Tryz.ntmps69
      go_wp2
      go_returns
      exact ⟨ret_frac H1.out.symm H2.out.symm H3.out.symm, by go_grown⟩
  · by_cases a1 : n ≤ 9223372036854775808
    · by_cases a2 : d ≤ 9223372036854775807
      · obtain ⟨e1, e2, e3⟩ := out_yes (p := -n) (q := d) (by omega) (by omega) a2
        have H1 : Hid (outN (sg true n) d = -n) := e1
        have H2 : Hid (outD (sg true n) d = d) := e2
        have H3 : Hid (outE (sg true n) d = 0) := e3
        clear e1 e2 e3
        go_enter Tryz.func69, Tryz.ntmps69
        go_wp2
        go_returns
        exact ⟨ret_frac (H1.out.trans (by go_arith)).symm H2.out.symm H3.out.symm, by go_grown⟩
      · obtain ⟨e1, e2, e3⟩ := out_no (p := -n) (q := d) (by omega)
        have H1 : Hid (outN (sg true n) d = 0) := e1
        have H2 : Hid (outD (sg true n) d = 0) := e2
        have H3 : Hid (outE (sg true n) d = 10) := e3
        clear e1 e2 e3
        go_enter Tryz.func69, Tryz.ntmps69
        go_wp2
        go_returns
        exact ⟨ret_frac H1.out.symm H2.out.symm H3.out.symm, by go_grown⟩
    · obtain ⟨e1, e2, e3⟩ := out_no (p := -n) (q := d) (by omega)
      have H1 : Hid (outN (sg true n) d = 0) := e1
      have H2 : Hid (outD (sg true n) d = 0) := e2
      have H3 : Hid (outE (sg true n) d = 10) := e3
      clear e1 e2 e3
      go_enter Tryz.func69, Tryz.ntmps69
      go_wp2
      go_returns
      exact ⟨ret_frac H1.out.symm H2.out.symm H3.out.symm, by go_grown⟩

end Go.Proofs.YtedoahibceeklabGreatDoor
