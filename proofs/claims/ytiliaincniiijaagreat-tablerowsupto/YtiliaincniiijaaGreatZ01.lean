/- Compare of any two values. -/
import Derived.Test.YtiliaincniiijaaGreatRows
import Derived.WalkKit
import Derived.WalkSpells
import Derived.WalkLawsBesides
import Derived.Handy
import Derived.BigQuiet
import Derived.Deep.QuietTactic
import Derived.Deep.RegionHeld3
import Derived.Shelf.Small.Bits
import Derived.Shelf.Small.Strs
import Derived.Shelf.Small.Wraps
import Derived.Shelf.Strconv.Itoa0
import Derived.Shelf.Sort.Plain
import Derived.Shelf.Bits.Mul64
import Derived.Shelf.Spec.BitsCarry
import Derived.Shelf.Slices.Turned
import Derived.Shelf.Slices.Equal
import Derived.Ground.Names2Prog
import Derived.Shelf.Slices.Clone
import Derived.Shelf.Slices.In.SortNone
import Derived.Shelf.Slices.Empties2
import Derived.Ground.SlgnProg
import Derived.Shelf.SlicesE.Clone
import Derived.Ground.SlsfProg
import Derived.Shelf.SlSortCmp.Insertion
import Derived.Shelf.SlSortCmp.SiftDown1
import Derived.Shelf.SlSortCmp.HeapSort1
import Derived.Shelf.SlSortCmp.Insertion1
import Derived.Shelf.SlSortCmp.Median1
import Derived.Shelf.SlSortCmp.Pivot1
import Derived.Shelf.SlSortCmp.ReverseRange1
import Derived.Shelf.SlSortCmp.PartialInsertion1
import Derived.Shelf.SlSortCmp.PartitionEqual1
import Derived.Shelf.SlSortCmp.Partition1
import Derived.Shelf.SlSortCmp.Pdq1
import Derived.Shelf.SlSortCmp.Whole1
import Derived.Shelf.SlSortCmp.NoneTotal
import Derived.Test.YtiliaincniiijaaGreatProg
import Derived.Laws.MathBits
import Derived.Deep.DeepCutAuto
import Derived.Lib.AppendStr
import Derived.Lib.UnsafeStr
import Derived.Lib.MakeNoZero
import Derived.Laws.Externs
import Derived.OwnWalk
import Derived.LoopN
import Derived.Lib.AppendIntMem
import Derived.Lib.ItoaLen
import Derived.Lib.ConvBytes
import Derived.Lib.AtoiErrMem
import Derived.Laws.EntriesVeiled
import Derived.ChangeKeysEq
import Derived.Deep.Cut

namespace Go.Proofs.YtiliaincniiijaaGreat

/-- How far a number is from 0. -/
def sz (n : Int) : Int := (n.natAbs : Int)
/-- The greatest common divisor of two numbers from 0 on. -/
def gc (a b : Int) : Int := ((Nat.gcd a.toNat b.toNat : Nat) : Int)

theorem sz_of_neg {n : Int} (h : n < 0) : sz n = -n := by unfold sz; omega
theorem sz_of_nonneg {n : Int} (h : 0 ≤ n) : sz n = n := by unfold sz; omega
theorem sz_nonneg (n : Int) : 0 ≤ sz n := by unfold sz; omega
theorem sz_le {n : Int} (h1 : -9223372036854775808 ≤ n) (h2 : n ≤ 9223372036854775807) : sz n ≤ 9223372036854775808 := by unfold sz; omega
theorem gc_zero (a : Int) (h : 0 ≤ a) : gc a 0 = a := by unfold gc; simp; omega
theorem gc_step (a b : Int) (ha : 0 ≤ a) (hb : 0 < b) : gc b (a % b) = gc a b := by
  unfold gc
  have e : (a % b).toNat = a.toNat % b.toNat := by
    obtain ⟨x, rfl⟩ := Int.eq_ofNat_of_zero_le ha
    obtain ⟨y, rfl⟩ := Int.eq_ofNat_of_zero_le (Int.le_of_lt hb)
    simp [← Int.natCast_emod]
  rw [e, Nat.gcd_comm b.toNat, ← Nat.gcd_rec, Nat.gcd_comm]

/-- A number by its sign and size. -/
def sg (b : Bool) (n : Int) : Int := if b then -n else n
/-- Does a fraction in its least form fit 64 bits? What is told of it: N, D, the error. -/
def okF (p q : Int) : Bool := decide (-9223372036854775808 ≤ p ∧ p ≤ 9223372036854775807 ∧ q ≤ 9223372036854775807)
def outN (p q : Int) : Int := if okF p q then p else 0
def outD (p q : Int) : Int := if okF p q then q else 0
def outE (p q : Int) : Int := if okF p q then 0 else 10

/-- p / q, q above 0, in its least form, if that fits. -/
def rN (p q : Int) : Int := outN (p / gc (sz p) q) (q / gc (sz p) q)
def rD (p q : Int) : Int := outD (p / gc (sz p) q) (q / gc (sz p) q)
def rE (p q : Int) : Int := outE (p / gc (sz p) q) (q / gc (sz p) q)

theorem sz_sg (b : Bool) (n : Int) : sz (sg b n) = sz n := by unfold sz sg; split <;> omega
theorem gc_pos (a b : Int) (hb : 0 < b) : 0 < gc a b := by
  unfold gc
  have : 0 < Nat.gcd a.toNat b.toNat := Nat.gcd_pos_of_pos_right _ (by omega)
  omega
theorem gc_dvd_left (a b : Int) (ha : 0 ≤ a) : gc a b ∣ a := by
  unfold gc
  have h := Int.natCast_dvd_natCast.2 (Nat.gcd_dvd_left a.toNat b.toNat)
  have e : ((a.toNat : Nat) : Int) = a := by omega
  rwa [e] at h
theorem gc_dvd_right (a b : Int) (hb : 0 ≤ b) : gc a b ∣ b := by
  unfold gc
  have h := Int.natCast_dvd_natCast.2 (Nat.gcd_dvd_right a.toNat b.toNat)
  have e : ((b.toNat : Nat) : Int) = b := by omega
  rwa [e] at h
theorem sg_div (b : Bool) (n g : Int) (h : g ∣ n) : sg b (n / g) = sg b n / g := by
  unfold sg; split
  · exact (Int.neg_ediv_of_dvd h).symm
  · rfl
theorem sg_sz (n : Int) (b : Bool) : sg (decide (n < 0) != b) (sz n) = sg b n := by
  unfold sg sz
  by_cases h : n < 0 <;> cases b <;> simp [h] <;> omega
theorem div_le_self (a g : Int) (ha : 0 ≤ a) (hg : 0 < g) : a / g ≤ a := by
  have h1 := Int.ediv_mul_le a (show g ≠ 0 by omega)
  have h2 : 0 ≤ a / g := Int.ediv_nonneg ha (by omega)
  have h3 : a / g * 1 ≤ a / g * g := Int.mul_le_mul_of_nonneg_left (by omega) h2
  omega

end Go.Proofs.YtiliaincniiijaaGreat

namespace Go.Proofs.YtiliaincniiijaaGreat
open Go.RowKit

theorem ret_int {k : IntKind} {a b : Int} (h : a = b) : Ending.returned (.int k a) = .returned (.int k b) := by rw [h]

theorem bdrewN {B : Nat} {a w : World} (n : Nat) (h : Below B a w) : Below B a (w.drewN n) := ⟨h.os, h.tape, h.output, h.size, h.block⟩

/-- What a caller knows of the world behind a callee that only makes new memory: old cells and marks, the heap's size, and that nothing older has turned. -/
theorem bf {w W w1 : World} (h0 : Below w.heap.size w W) (hb : Below W.heap.size W w1) :
    (∀ b o, b < W.heap.size → w1.cell? ⟨b, o, none⟩ = W.cell? ⟨b, o, none⟩) ∧ (∀ b o, b < W.heap.size → w1.frozen? ⟨b, o, none⟩ = W.frozen? ⟨b, o, none⟩) ∧ W.heap.size ≤ w1.heap.size ∧ Below w.heap.size w w1 :=
  ⟨fun b o h => hb.cell (p := ⟨b, o, none⟩) h, fun b o h => hb.frozen (p := ⟨b, o, none⟩) h, hb.size, h0.trans (hb.mono h0.size)⟩

set_option maxHeartbeats 400000 in
theorem size_any (n : Int) (w : World) (h1 : -9223372036854775808 ≤ n) (h2 : n ≤ 9223372036854775807) :
    Calls Tryz.prog 110 #[.int .i64 n] w fun e w' => e = .returned (.int .u64 (sz n)) ∧ w' = w := by
  by_cases h : n < 0
  · go_enter Tryz.func110, Tryz.ntmps110
    go_wp2
    go_ret
    exact ⟨ret_int (by rw [sz_of_neg h]; go_arith), rfl⟩
  · have h' : 0 ≤ n := by omega
    go_enter Tryz.func110, Tryz.ntmps110
    go_wp2
    go_ret
    exact ⟨ret_int (by rw [sz_of_nonneg h']), rfl⟩

set_option maxHeartbeats 400000 in
theorem divisor_any (a b : Int) (w : World) (ha : 0 ≤ a) (hb : 0 ≤ b) (ha' : a ≤ 18446744073709551615) (hb' : b ≤ 18446744073709551615) :
    Calls Tryz.prog 111 #[.int .u64 a, .int .u64 b] w fun e w' => e = .returned (.int .u64 (gc a b)) ∧ ∃ k, w' = w.drewN k := by
  go_enter Tryz.func111, Tryz.ntmps111
  go_wp2
  go_loopw [0, 1] (fun u v wr => ∃ x y : Int, 0 ≤ x ∧ 0 ≤ y ∧ x ≤ 18446744073709551615 ∧ y ≤ 18446744073709551615 ∧ Hid (gc x y = gc a b) ∧ u = .int .u64 x ∧ v = .int .u64 y ∧ ∃ k, wr = w.drewN k) (fun _ v _ => (intOf v).toNat)
  case atStart => exact ⟨a, b, ha, hb, ha', hb', rfl, rfl, rfl, 0, rfl⟩
  case round =>
    obtain ⟨x, y, hx, hy, hx', hy', hg, rfl, rfl, k, rfl⟩ := hrel
    by_cases hz : y = 0
    · subst hz
      go_wp2
      go_ret
      exact ⟨ret_int (by rw [← hg.out, gc_zero _ hx]), k, rfl⟩
    · have hz' : (y != 0) = true := by simpa using hz
      have hp : 0 < y := by omega
      go_wp2
      go_quiet (fail)
      go_wp2
      exact ⟨⟨y, x % y, hy, Int.emod_nonneg _ hz, hy', by have := Int.emod_lt_of_pos x hp; omega, (gc_step x y hx hp).trans hg.out, rfl, rfl, k + nq, World.drewN_drewN ..⟩, by have := Int.emod_lt_of_pos x hp; have := Int.emod_nonneg x hz; simp [intOf]; omega⟩

theorem out_yes {p q : Int} (h1 : -9223372036854775808 ≤ p) (h2 : p ≤ 9223372036854775807) (h3 : q ≤ 9223372036854775807) : outN p q = p ∧ outD p q = q ∧ outE p q = 0 := by
  have h : okF p q = true := by simp [okF]; omega
  simp [outN, outD, outE, h]
theorem out_no {p q : Int} (h : ¬ (-9223372036854775808 ≤ p ∧ p ≤ 9223372036854775807 ∧ q ≤ 9223372036854775807)) : outN p q = 0 ∧ outD p q = 0 ∧ outE p q = 10 := by
  have h : okF p q = false := by simp [okF]; omega
  simp [outN, outD, outE, h]

theorem ret_frac {a b c a' b' c' : Int} (h1 : a = a') (h2 : b = b') (h3 : c = c') : Ending.returned (.tuple #[.agg #[.int .i64 a, .int .i64 b], .int .i64 c]) = Ending.returned (.tuple #[.agg #[.int .i64 a', .int .i64 b'], .int .i64 c']) := by rw [h1, h2, h3]

set_option maxHeartbeats 1000000 in
theorem fit_any (b : Bool) (n d : Int) (w : World) (h0 : 0 ≤ n) (h1 : n ≤ 18446744073709551615) (g0 : 0 ≤ d) (g1 : d ≤ 18446744073709551615) :
    Calls Tryz.prog 112 #[.agg #[.bool b, .int .u64 n, .int .u64 d]] w fun e w' => e = .returned (.tuple #[.agg #[.int .i64 (outN (sg b n) d), .int .i64 (outD (sg b n) d)], .int .i64 (outE (sg b n) d)]) ∧ Below w.heap.size w w' := by
  cases b
  · by_cases a1 : n ≤ 9223372036854775807
    · by_cases a2 : d ≤ 9223372036854775807
      · obtain ⟨e1, e2, e3⟩ := out_yes (p := n) (q := d) (by omega) a1 a2
        have H1 : Hid (outN (sg false n) d = n) := e1
        have H2 : Hid (outD (sg false n) d = d) := e2
        have H3 : Hid (outE (sg false n) d = 0) := e3
        clear e1 e2 e3
        go_enter Tryz.func112, Tryz.ntmps112
        go_wp2
        go_returns
        exact ⟨ret_frac H1.out.symm H2.out.symm H3.out.symm, by go_grown⟩
      · obtain ⟨e1, e2, e3⟩ := out_no (p := n) (q := d) (by omega)
        have H1 : Hid (outN (sg false n) d = 0) := e1
        have H2 : Hid (outD (sg false n) d = 0) := e2
        have H3 : Hid (outE (sg false n) d = 10) := e3
        clear e1 e2 e3
        go_enter Tryz.func112, Tryz.ntmps112
        go_wp2
        go_returns
        exact ⟨ret_frac H1.out.symm H2.out.symm H3.out.symm, by go_grown⟩
    · obtain ⟨e1, e2, e3⟩ := out_no (p := n) (q := d) (by omega)
      have H1 : Hid (outN (sg false n) d = 0) := e1
      have H2 : Hid (outD (sg false n) d = 0) := e2
      have H3 : Hid (outE (sg false n) d = 10) := e3
      clear e1 e2 e3
      go_enter Tryz.func112, Tryz.ntmps112
      go_wp2
      go_returns
      exact ⟨ret_frac H1.out.symm H2.out.symm H3.out.symm, by go_grown⟩
  · by_cases a1 : n ≤ 9223372036854775808
    · by_cases a2 : d ≤ 9223372036854775807
      · obtain ⟨e1, e2, e3⟩ := out_yes (p := -n) (q := d) (by omega) (by omega) a2
        have H1 : Hid (outN (sg true n) d = -n) := e1
        have H2 : Hid (outD (sg true n) d = d) := e2
        have H3 : Hid (outE (sg true n) d = 0) := e3
        clear e1 e2 e3
        go_enter Tryz.func112, Tryz.ntmps112
        go_wp2
        go_returns
        exact ⟨ret_frac (H1.out.trans (by go_arith)).symm H2.out.symm H3.out.symm, by go_grown⟩
      · obtain ⟨e1, e2, e3⟩ := out_no (p := -n) (q := d) (by omega)
        have H1 : Hid (outN (sg true n) d = 0) := e1
        have H2 : Hid (outD (sg true n) d = 0) := e2
        have H3 : Hid (outE (sg true n) d = 10) := e3
        clear e1 e2 e3
        go_enter Tryz.func112, Tryz.ntmps112
        go_wp2
        go_returns
        exact ⟨ret_frac H1.out.symm H2.out.symm H3.out.symm, by go_grown⟩
    · obtain ⟨e1, e2, e3⟩ := out_no (p := -n) (q := d) (by omega)
      have H1 : Hid (outN (sg true n) d = 0) := e1
      have H2 : Hid (outD (sg true n) d = 0) := e2
      have H3 : Hid (outE (sg true n) d = 10) := e3
      clear e1 e2 e3
      go_enter Tryz.func112, Tryz.ntmps112
      go_wp2
      go_returns
      exact ⟨ret_frac H1.out.symm H2.out.symm H3.out.symm, by go_grown⟩

end Go.Proofs.YtiliaincniiijaaGreat

namespace Go.Proofs.YtiliaincniiijaaGreat
open Go.RowKit

theorem u64_tdiv (a b : Int) (ha : 0 ≤ a) (ha' : a ≤ 18446744073709551615) (hb : 0 < b) : IntKind.u64.wrap (a.tdiv b) = a / b := by
  rw [Int.tdiv_eq_ediv_of_nonneg ha, IntKind.wrap_u64]
  have h1 := div_le_self a b ha hb
  have h2 : 0 ≤ a / b := Int.ediv_nonneg ha (by omega)
  omega

set_option maxHeartbeats 400000 in
theorem of_zero (n : Int) (w : World) :
    Calls Tryz.prog 77 #[.int .i64 n, .int .i64 0] w fun e w' => e = .returned (.tuple #[.agg #[.int .i64 0, .int .i64 0], .int .i64 11]) ∧ Below w.heap.size w w' := by
  go_enter Tryz.func77, Tryz.ntmps77
  go_wp2
  go_returns
  exact ⟨rfl, by go_grown⟩

set_option maxHeartbeats 400000 in
theorem of_raw (n d : Int) (w : World) (h1 : -9223372036854775808 ≤ n) (h2 : n ≤ 9223372036854775807) (g1 : -9223372036854775808 ≤ d) (g2 : d ≤ 9223372036854775807) (hd : (d == 0) = false) :
    Calls Tryz.prog 77 #[.int .i64 n, .int .i64 d] w fun e w' => (∃ b : Bool, b = (!(decide (n < 0) == decide (d < 0))) ∧ e = .returned (.tuple #[.agg #[.int .i64 (outN (sg b (sz n / gc (sz n) (sz d))) (sz d / gc (sz n) (sz d))), .int .i64 (outD (sg b (sz n / gc (sz n) (sz d))) (sz d / gc (sz n) (sz d)))], .int .i64 (outE (sg b (sz n / gc (sz n) (sz d))) (sz d / gc (sz n) (sz d)))])) ∧ Below w.heap.size w w' := by
  have hd' : d ≠ 0 := by simpa using hd
  have hz : 0 < sz d := by unfold sz; omega
  have hz2 := sz_nonneg n
  have hz3 := sz_le h1 h2
  have hz4 := sz_le g1 g2
  have hp := gc_pos (sz n) (sz d) hz
  have q1 : 0 ≤ sz n / gc (sz n) (sz d) := Int.ediv_nonneg hz2 (by omega)
  have q2 : 0 ≤ sz d / gc (sz n) (sz d) := Int.ediv_nonneg (by omega) (by omega)
  have q3 := div_le_self (sz n) _ hz2 hp
  have q4 := div_le_self (sz d) _ (by omega) hp
  have hne : ¬ gc (sz n) (sz d) = 0 := by omega
  have t1 := u64_tdiv (sz n) (gc (sz n) (sz d)) hz2 (by omega) hp
  have t2 := u64_tdiv (sz d) (gc (sz n) (sz d)) (by omega) (by omega) hp
  clear hd'
  go_enter Tryz.func77, Tryz.ntmps77
  go_wp2_with (first
    | (go_at_call 110; refine (size_any _ _ (by omega) (by omega)).mono ?_; rintro e w' ⟨rfl, rfl⟩)
    | (go_at_call 111; refine (divisor_any _ _ _ (by omega) (by omega) (by omega) (by omega)).mono ?_; rintro e w' ⟨rfl, k, rfl⟩))
  go_region_held3 (fun _ => True) (trivial)
    (first
      | (go_at_call 112; refine (fit_any _ _ _ _ q1 (by omega) q2 (by omega)).mono ?_; rintro e w1 ⟨rfl, hb⟩; obtain ⟨hc, hf, hz5, hB⟩ := bf (w := w) (bdrewN _ (by go_grown)) hb))
  go_wp2
  refine bodyPost_ret (by simp [results, Tryz.results77, go_sem, hc]; try rfl) rfl ?_
  refine ⟨⟨_, rfl, rfl⟩, ?_⟩
  go_grown

/-- The numerator that Of takes to the least form: d's sign goes there. -/
def ofP (n d : Int) : Int := sg (decide (d < 0)) n

theorem of_any (n d : Int) (w : World) (h1 : -9223372036854775808 ≤ n) (h2 : n ≤ 9223372036854775807) (g1 : -9223372036854775808 ≤ d) (g2 : d ≤ 9223372036854775807) (hd : (d == 0) = false) :
    Calls Tryz.prog 77 #[.int .i64 n, .int .i64 d] w fun e w' => e = .returned (.tuple #[.agg #[.int .i64 (rN (ofP n d) (sz d)), .int .i64 (rD (ofP n d) (sz d))], .int .i64 (rE (ofP n d) (sz d))]) ∧ Below w.heap.size w w' := by
  refine (of_raw n d w h1 h2 g1 g2 hd).mono ?_
  rintro e w' ⟨⟨b, rfl, rfl⟩, hb⟩
  refine ⟨?_, hb⟩
  have e1 : sg (!(decide (n < 0) == decide (d < 0))) (sz n / gc (sz n) (sz d)) = ofP n d / gc (sz n) (sz d) := by
    rw [sg_div _ _ _ (gc_dvd_left _ _ (sz_nonneg n))]
    exact congrArg (· / gc (sz n) (sz d)) (sg_sz n (decide (d < 0)))
  have e2 : sz (ofP n d) = sz n := sz_sg _ _
  unfold rN rD rE
  rw [e1, e2]

/-- What Of tells of any two numbers. -/
def oN (n d : Int) : Int := if d = 0 then 0 else rN (ofP n d) (sz d)
def oD (n d : Int) : Int := if d = 0 then 0 else rD (ofP n d) (sz d)
def oE (n d : Int) : Int := if d = 0 then 11 else rE (ofP n d) (sz d)

theorem of_all (n d : Int) (w : World) (h1 : -9223372036854775808 ≤ n) (h2 : n ≤ 9223372036854775807) (g1 : -9223372036854775808 ≤ d) (g2 : d ≤ 9223372036854775807) :
    Calls Tryz.prog 77 #[.int .i64 n, .int .i64 d] w fun e w' => e = .returned (.tuple #[.agg #[.int .i64 (oN n d), .int .i64 (oD n d)], .int .i64 (oE n d)]) ∧ Below w.heap.size w w' := by
  unfold oN oD oE
  by_cases h : d = 0
  · subst h; simpa using of_zero n w
  · simpa [h] using of_any n d w h1 h2 g1 g2 (by simpa using h)

/-- May a fraction be, by Of alone? -/
def mayB (n d : Int) : Bool := oE n d == 0 && (oN n d == n && oD n d == d)

set_option maxHeartbeats 400000 in
theorem may_any (n d : Int) (w : World) (h1 : -9223372036854775808 ≤ n) (h2 : n ≤ 9223372036854775807) (g1 : -9223372036854775808 ≤ d) (g2 : d ≤ 9223372036854775807) :
    Calls Tryz.prog 128 #[.agg #[.int .i64 n, .int .i64 d]] w fun e w' => e = .returned (.bool (mayB n d)) ∧ Below w.heap.size w w' := by
  by_cases a1 : oE n d = 0
  · go_enter Tryz.func128, Tryz.ntmps128
    go_wp2_with (first
      | (go_at_call 77; refine (of_all _ _ _ h1 h2 g1 g2).mono ?_; rintro e w1 ⟨rfl, hb⟩; obtain ⟨hc, hf, hz, hB⟩ := bf (w := w) (by go_grown) hb; simp only [World.size_alloc] at hz; have z0 : w.heap.size < w1.heap.size := by omega))
    all_goals
      go_ret
      exact ⟨by simp [mayB, *], by go_grown⟩
  · have a2 : (oE n d == 0) = false := by simpa using a1
    go_enter Tryz.func128, Tryz.ntmps128
    go_wp2_with (first
      | (go_at_call 77; refine (of_all _ _ _ h1 h2 g1 g2).mono ?_; rintro e w1 ⟨rfl, hb⟩; obtain ⟨hc, hf, hz, hB⟩ := bf (w := w) (by go_grown) hb; simp only [World.size_alloc] at hz; have z0 : w.heap.size < w1.heap.size := by omega))
    all_goals
      go_ret
      exact ⟨by simp [mayB, a2], by go_grown⟩

set_option maxHeartbeats 400000 in
theorem split_any (n d : Int) (w : World) (h1 : -9223372036854775808 ≤ n) (h2 : n ≤ 9223372036854775807) (g1 : -9223372036854775808 ≤ d) (g2 : d ≤ 9223372036854775807) :
    Calls Tryz.prog 130 #[.agg #[.int .i64 n, .int .i64 d]] w fun e w' => e = .returned (.agg #[.bool (decide (n < 0)), .int .u64 (sz n), .int .u64 (sz d)]) ∧ Below w.heap.size w w' := by
  go_enter Tryz.func130, Tryz.ntmps130
  go_wp2
  go_region_held3 (fun w' => w'.cell? ⟨w.heap.size, 0, none⟩ = some (.int .i64 n) ∧ w'.cell? ⟨w.heap.size, 1, none⟩ = some (.int .i64 d)) (simp [go_sem])
    (first
      | (go_at_call 110; refine (size_any _ _ (by omega) (by omega)).mono ?_; rintro e w' ⟨rfl, rfl⟩))
  go_wp2
  go_returns
  exact ⟨rfl, by go_grown⟩

end Go.Proofs.YtiliaincniiijaaGreat

namespace Go.Proofs
open Go.Shelf
def Tryz.lays106_ren : Go.Shelf.Ren := ⟨fun | 106 => 63 | 213 => 76 | 265 => 109 | n => n, fun | 9 => 9 | 3 => 3 | n => n, fun | n => n⟩
theorem Tryz.lays106 : Go.Proofs.Lays.n106 Tryz.prog Tryz.lays106_ren := {
  mixed := by kernel_rfl
  f106 := Tryz.func63.trans (congrArg some (by kernel_rfl))
  f213 := Tryz.func76.trans (congrArg some (by kernel_rfl))
  f265 := Tryz.func109.trans (congrArg some (by kernel_rfl))
  t3 := Tryz.underlying3
  a3 := Tryz.isAgg3
  z3 := Tryz.sizeOf3
  v3 := Tryz.zeroValue3
  t9 := Tryz.underlying9
  a9 := Tryz.isAgg9
  z9 := Tryz.sizeOf9
  v9 := Tryz.zeroValue9 }
open Go.RowKit in
theorem Tryz.strings_Compare (a b : ByteArray) (w : World) :
    Calls Tryz.prog 63 #[.string a, .string b] w fun e w' => e = .returned (.int .i64 (Lib.compareBytes a.data.toList b.data.toList)) ∧ w' = w := Any.strings_Compare Tryz.lays106 a b w
def Tryz.lays122_ren : Go.Shelf.Ren := ⟨fun | 122 => 38 | 215 => 66 | n => n, fun | 3 => 3 | 4 => 4 | n => n, fun | n => n⟩
theorem Tryz.lays122 : Go.Proofs.Lays.n122 Tryz.prog Tryz.lays122_ren := {
  mixed := by kernel_rfl
  f122 := Tryz.func38.trans (congrArg some (by kernel_rfl))
  f215 := Tryz.func66.trans (congrArg some (by kernel_rfl))
  t3 := Tryz.underlying3
  a3 := Tryz.isAgg3
  z3 := Tryz.sizeOf3
  v3 := Tryz.zeroValue3
  t4 := Tryz.underlying4
  a4 := Tryz.isAgg4
  z4 := Tryz.sizeOf4
  v4 := Tryz.zeroValue4 }
open Go.RowKit in
theorem Tryz.cmp_Compare_int (x y : Int) (w : World) :
    Calls Tryz.prog 38 #[.int .i64 x, .int .i64 y] w fun e w' => e = .returned (.int .i64 (Lib.compareInt x y)) ∧ w' = w := Any.cmp_Compare_int Tryz.lays122 x y w
def Tryz.lays189_ren : Go.Shelf.Ren := ⟨fun | 189 => 40 | 125 => 70 | 257 => 69 | 128 => 91 | 129 => 92 | 294 => 82 | 295 => 83 | 296 => 84 | 297 => 85 | 298 => 86 | 299 => 87 | 216 => 88 | 300 => 89 | 301 => 90 | 328 => 116 | 329 => 117 | 330 => 118 | 331 => 119 | 332 => 120 | 215 => 66 | 343 => 131 | n => n, fun | 28 => 54 | 3 => 3 | 46 => 99 | 0 => 0 | 51 => 120 | 53 => 122 | 4 => 4 | 183 => 112 | 182 => 111 | 131 => 117 | 5 => 5 | 9 => 9 | 218 => 141 | 222 => 145 | 228 => 155 | 229 => 156 | n => n, fun | n => n⟩
theorem Tryz.lays189 : Go.Proofs.Lays.n189 Tryz.prog Tryz.lays189_ren := {
  mixed := by kernel_rfl
  f125 := Tryz.func70.trans (congrArg some (by kernel_rfl))
  f128 := Tryz.func91.trans (congrArg some (by kernel_rfl))
  f129 := Tryz.func92.trans (congrArg some (by kernel_rfl))
  f189 := Tryz.func40.trans (congrArg some (by kernel_rfl))
  f215 := Tryz.func66.trans (congrArg some (by kernel_rfl))
  f216 := Tryz.func88.trans (congrArg some (by kernel_rfl))
  f257 := Tryz.func69.trans (congrArg some (by kernel_rfl))
  f294 := Tryz.func82.trans (congrArg some (by kernel_rfl))
  f295 := Tryz.func83.trans (congrArg some (by kernel_rfl))
  f296 := Tryz.func84.trans (congrArg some (by kernel_rfl))
  f297 := Tryz.func85.trans (congrArg some (by kernel_rfl))
  f298 := Tryz.func86.trans (congrArg some (by kernel_rfl))
  f299 := Tryz.func87.trans (congrArg some (by kernel_rfl))
  f300 := Tryz.func89.trans (congrArg some (by kernel_rfl))
  f301 := Tryz.func90.trans (congrArg some (by kernel_rfl))
  f328 := Tryz.func116.trans (congrArg some (by kernel_rfl))
  f329 := Tryz.func117.trans (congrArg some (by kernel_rfl))
  f330 := Tryz.func118.trans (congrArg some (by kernel_rfl))
  f331 := Tryz.func119.trans (congrArg some (by kernel_rfl))
  f332 := Tryz.func120.trans (congrArg some (by kernel_rfl))
  f343 := Tryz.func131.trans (congrArg some (by kernel_rfl))
  t0 := Tryz.underlying0
  a0 := Tryz.isAgg0
  z0 := Tryz.sizeOf0
  v0 := Tryz.zeroValue0
  t3 := Tryz.underlying3
  a3 := Tryz.isAgg3
  z3 := Tryz.sizeOf3
  v3 := Tryz.zeroValue3
  t4 := Tryz.underlying4
  a4 := Tryz.isAgg4
  z4 := Tryz.sizeOf4
  v4 := Tryz.zeroValue4
  t5 := Tryz.underlying5
  a5 := Tryz.isAgg5
  z5 := Tryz.sizeOf5
  v5 := Tryz.zeroValue5
  t9 := Tryz.underlying9
  a9 := Tryz.isAgg9
  z9 := Tryz.sizeOf9
  v9 := Tryz.zeroValue9
  t28 := Tryz.underlying54
  a28 := Tryz.isAgg54
  z28 := Tryz.sizeOf54
  v28 := Tryz.zeroValue54
  t46 := Tryz.underlying99
  a46 := Tryz.isAgg99
  z46 := Tryz.sizeOf99
  v46 := Tryz.zeroValue99
  t51 := Tryz.underlying120
  a51 := Tryz.isAgg120
  z51 := Tryz.sizeOf120
  v51 := Tryz.zeroValue120
  t53 := Tryz.underlying122
  a53 := Tryz.isAgg122
  z53 := Tryz.sizeOf122
  v53 := Tryz.zeroValue122
  t131 := Tryz.underlying117
  a131 := Tryz.isAgg117
  z131 := Tryz.sizeOf117
  v131 := Tryz.zeroValue117
  t182 := Tryz.underlying111
  a182 := Tryz.isAgg111
  z182 := Tryz.sizeOf111
  v182 := Tryz.zeroValue111
  t183 := Tryz.underlying112
  a183 := Tryz.isAgg112
  z183 := Tryz.sizeOf112
  v183 := Tryz.zeroValue112
  t218 := Tryz.underlying141
  a218 := Tryz.isAgg141
  z218 := Tryz.sizeOf141
  v218 := Tryz.zeroValue141
  t222 := Tryz.underlying145
  a222 := Tryz.isAgg145
  z222 := Tryz.sizeOf145
  v222 := Tryz.zeroValue145
  t228 := Tryz.underlying155
  a228 := Tryz.isAgg155
  z228 := Tryz.sizeOf155
  v228 := Tryz.zeroValue155
  t229 := Tryz.underlying156
  a229 := Tryz.isAgg156
  z229 := Tryz.sizeOf156
  v229 := Tryz.zeroValue156 }
open Go.Sort Go.RowKit in
theorem Tryz.slices_Sort_int (blk off cap : Nat) (zs : List Int) (w : World) (hH : Holds (Value.int .i64) w blk off zs.toArray) (hblk : blk < w.heap.size) (hsz : zs.length < 4611686018427387904) :
    Calls Tryz.prog 40 #[.slice (some ⟨blk, off, none⟩) zs.length cap] w fun e w' =>
      e = .returned (.tuple #[]) ∧ ∃ n os, w' = grow (putRow (Value.int .i64) (Sort.ahead w n) blk off (zs.mergeSort fun x y => decide (x ≤ y)).toArray) os := Any.slices_Sort_int Tryz.lays189 blk off cap zs w hH hblk hsz
def Tryz.lays264_ren : Go.Shelf.Ren := ⟨fun | 264 => 136 | n => n, fun | 53 => 122 | 46 => 99 | n => n, fun | n => n⟩
theorem Tryz.lays264 : Go.Proofs.Lays.n264 Tryz.prog Tryz.lays264_ren := {
  mixed := by kernel_rfl
  f264 := Tryz.func136.trans (congrArg some (by kernel_rfl))
  t46 := Tryz.underlying99
  a46 := Tryz.isAgg99
  z46 := Tryz.sizeOf99
  v46 := Tryz.zeroValue99
  t53 := Tryz.underlying122
  a53 := Tryz.isAgg122
  z53 := Tryz.sizeOf122
  v53 := Tryz.zeroValue122 }
open Go.RowKit Go.Lib in
theorem Tryz.bits_Mul64 (x y : Nat) (hx : x < 18446744073709551616) (hy : y < 18446744073709551616) (w : World) :
    Calls Tryz.prog 136 #[.int .u64 x, .int .u64 y] w fun e w' => e = .returned (.tuple #[.int .u64 ((x * y / 18446744073709551616 : Nat) : Int), .int .u64 ((x * y % 18446744073709551616 : Nat) : Int)]) ∧ w' = w := Any.bits_Mul64 Tryz.lays264 x y hx hy w
def Tryz.lays107_ren : Go.Shelf.Ren := ⟨fun | 107 => 68 | 108 => 81 | n => n, fun | 28 => 54 | 3 => 3 | 4 => 4 | 0 => 0 | n => n, fun | n => n⟩
theorem Tryz.lays107 : Go.Proofs.Lays.n107 Tryz.prog Tryz.lays107_ren := {
  mixed := by kernel_rfl
  f107 := Tryz.func68.trans (congrArg some (by kernel_rfl))
  f108 := Tryz.func81.trans (congrArg some (by kernel_rfl))
  t0 := Tryz.underlying0
  a0 := Tryz.isAgg0
  z0 := Tryz.sizeOf0
  v0 := Tryz.zeroValue0
  t3 := Tryz.underlying3
  a3 := Tryz.isAgg3
  z3 := Tryz.sizeOf3
  v3 := Tryz.zeroValue3
  t4 := Tryz.underlying4
  a4 := Tryz.isAgg4
  z4 := Tryz.sizeOf4
  v4 := Tryz.zeroValue4
  t28 := Tryz.underlying54
  a28 := Tryz.isAgg54
  z28 := Tryz.sizeOf54
  v28 := Tryz.zeroValue54 }
open Go.Lib in
theorem Tryz.slices_Contains_int (b off n c : Nat) (zs : List Int) (x : Int) (w : World) (hz : n ≤ zs.length) (hbig : n ≤ 9223372036854775807) (hc : ∀ j, j < zs.length → w.cell? ⟨b, off + j, none⟩ = some (.int .i64 (zs.getD j 0))) :
    Calls Tryz.prog 68 #[.slice (some ⟨b, off, none⟩) n c, .int .i64 x] w fun e w' => e = .returned (.bool ((zs.take n).contains x)) ∧ w' = w := Any.slices_Contains_int Tryz.lays107 b off n c zs x w hz hbig hc
open Go.Lib in
theorem Tryz.slices_Contains_int_empty (a : Option Addr) (c : Nat) (x : Int) (w : World) :
    Calls Tryz.prog 68 #[.slice a 0 c, .int .i64 x] w fun e w' => e = .returned (.bool false) ∧ w' = w := Any.slices_Contains_int_empty Tryz.lays107 a c x w
def Tryz.lays109_ren : Go.Shelf.Ren := ⟨fun | 109 => 67 | n => n, fun | 31 => 22 | 9 => 9 | 3 => 3 | 0 => 0 | 4 => 4 | n => n, fun | n => n⟩
theorem Tryz.lays109 : Go.Proofs.Lays.n109 Tryz.prog Tryz.lays109_ren := {
  mixed := by kernel_rfl
  f109 := Tryz.func67.trans (congrArg some (by kernel_rfl))
  t0 := Tryz.underlying0
  a0 := Tryz.isAgg0
  z0 := Tryz.sizeOf0
  v0 := Tryz.zeroValue0
  t3 := Tryz.underlying3
  a3 := Tryz.isAgg3
  z3 := Tryz.sizeOf3
  v3 := Tryz.zeroValue3
  t4 := Tryz.underlying4
  a4 := Tryz.isAgg4
  z4 := Tryz.sizeOf4
  v4 := Tryz.zeroValue4
  t9 := Tryz.underlying9
  a9 := Tryz.isAgg9
  z9 := Tryz.sizeOf9
  v9 := Tryz.zeroValue9
  t31 := Tryz.underlying22
  a31 := Tryz.isAgg22
  z31 := Tryz.sizeOf22
  v31 := Tryz.zeroValue22 }
open Go.Lib in
theorem Tryz.slices_Index_string (b off n c : Nat) (zs : List ByteArray) (x : ByteArray) (w : World) (hz : n ≤ zs.length) (hbig : n ≤ 9223372036854775807) (hc : ∀ j, j < zs.length → w.cell? ⟨b, off + j, none⟩ = some (.string (zs.getD j ByteArray.empty))) :
    Calls Tryz.prog 67 #[.slice (some ⟨b, off, none⟩) n c, .string x] w fun e w' => e = .returned (.int .i64 (Lib.idxOfS (zs.take n) x)) ∧ w' = w := Any.slices_Index_string Tryz.lays109 b off n c zs x w hz hbig hc
open Go.Lib in
theorem Tryz.slices_Index_string_empty (a : Option Addr) (c : Nat) (x : ByteArray) (w : World) :
    Calls Tryz.prog 67 #[.slice a 0 c, .string x] w fun e w' => e = .returned (.int .i64 (Lib.idxOfS [] x)) ∧ w' = w := Any.slices_Index_string_empty Tryz.lays109 a c x w
def Tryz.lays110_ren : Go.Shelf.Ren := ⟨fun | 110 => 52 | 109 => 67 | n => n, fun | 31 => 22 | 9 => 9 | 4 => 4 | 3 => 3 | 0 => 0 | n => n, fun | n => n⟩
theorem Tryz.lays110 : Go.Proofs.Lays.n110 Tryz.prog Tryz.lays110_ren := {
  mixed := by kernel_rfl
  f109 := Tryz.func67.trans (congrArg some (by kernel_rfl))
  f110 := Tryz.func52.trans (congrArg some (by kernel_rfl))
  t0 := Tryz.underlying0
  a0 := Tryz.isAgg0
  z0 := Tryz.sizeOf0
  v0 := Tryz.zeroValue0
  t3 := Tryz.underlying3
  a3 := Tryz.isAgg3
  z3 := Tryz.sizeOf3
  v3 := Tryz.zeroValue3
  t4 := Tryz.underlying4
  a4 := Tryz.isAgg4
  z4 := Tryz.sizeOf4
  v4 := Tryz.zeroValue4
  t9 := Tryz.underlying9
  a9 := Tryz.isAgg9
  z9 := Tryz.sizeOf9
  v9 := Tryz.zeroValue9
  t31 := Tryz.underlying22
  a31 := Tryz.isAgg22
  z31 := Tryz.sizeOf22
  v31 := Tryz.zeroValue22 }
open Go.Lib in
theorem Tryz.slices_Contains_string (b off n c : Nat) (zs : List ByteArray) (x : ByteArray) (w : World) (hz : n ≤ zs.length) (hbig : n ≤ 9223372036854775807) (hc : ∀ j, j < zs.length → w.cell? ⟨b, off + j, none⟩ = some (.string (zs.getD j ByteArray.empty))) :
    Calls Tryz.prog 52 #[.slice (some ⟨b, off, none⟩) n c, .string x] w fun e w' => e = .returned (.bool (Lib.containsS (zs.take n) x)) ∧ w' = w := Any.slices_Contains_string Tryz.lays110 b off n c zs x w hz hbig hc
open Go.Lib in
theorem Tryz.slices_Contains_string_empty (a : Option Addr) (c : Nat) (x : ByteArray) (w : World) :
    Calls Tryz.prog 52 #[.slice a 0 c, .string x] w fun e w' => e = .returned (.bool false) ∧ w' = w := Any.slices_Contains_string_empty Tryz.lays110 a c x w
def Tryz.lays193_ren : Go.Shelf.Ren := ⟨fun | 193 => 42 | n => n, fun | 31 => 22 | 9 => 9 | 4 => 4 | 3 => 3 | 0 => 0 | n => n, fun | n => n⟩
theorem Tryz.lays193 : Go.Proofs.Lays.n193 Tryz.prog Tryz.lays193_ren := {
  mixed := by kernel_rfl
  f193 := Tryz.func42.trans (congrArg some (by kernel_rfl))
  t0 := Tryz.underlying0
  a0 := Tryz.isAgg0
  z0 := Tryz.sizeOf0
  v0 := Tryz.zeroValue0
  t3 := Tryz.underlying3
  a3 := Tryz.isAgg3
  z3 := Tryz.sizeOf3
  v3 := Tryz.zeroValue3
  t4 := Tryz.underlying4
  a4 := Tryz.isAgg4
  z4 := Tryz.sizeOf4
  v4 := Tryz.zeroValue4
  t9 := Tryz.underlying9
  a9 := Tryz.isAgg9
  z9 := Tryz.sizeOf9
  v9 := Tryz.zeroValue9
  t31 := Tryz.underlying22
  a31 := Tryz.isAgg22
  z31 := Tryz.sizeOf22
  v31 := Tryz.zeroValue22 }
open Go.RowKit Go.Lib in
theorem Tryz.slices_Equal_string (b1 o1 n c b2 o2 m d : Nat) (xs ys : List ByteArray) (w : World) (hx : n ≤ xs.length) (hy : m ≤ ys.length) (hbig : n ≤ 9223372036854775807) (hbig2 : m ≤ 9223372036854775807) (hc1 : ∀ j, j < xs.length → w.cell? ⟨b1, o1 + j, none⟩ = some (.string (xs.getD j ByteArray.empty))) (hc2 : ∀ j, j < ys.length → w.cell? ⟨b2, o2 + j, none⟩ = some (.string (ys.getD j ByteArray.empty))) :
    Calls Tryz.prog 42 #[.slice (some ⟨b1, o1, none⟩) n c, .slice (some ⟨b2, o2, none⟩) m d] w fun e w' => e = .returned (.bool (decide (xs.take n = ys.take m))) ∧ ∃ q, w' = w.drewN q := Any.slices_Equal_string Tryz.lays193 b1 o1 n c b2 o2 m d xs ys w hx hy hbig hbig2 hc1 hc2
open Go.RowKit Go.Lib in
theorem Tryz.slices_Equal_string_empty (a1 a2 : Option Addr) (c m d : Nat) (w : World) (hbig2 : m ≤ 9223372036854775807) :
    Calls Tryz.prog 42 #[.slice a1 0 c, .slice a2 m d] w fun e w' => e = .returned (.bool (decide (m = 0))) ∧ w' = w := Any.slices_Equal_string_empty Tryz.lays193 a1 a2 c m d w hbig2
def Tryz.laysNm216_ren : Go.Shelf.Ren := ⟨fun | 16 => 26 | n => n, fun | 24 => 22 | 9 => 9 | 4 => 4 | n => n, fun | n => n⟩
theorem Tryz.laysNm216 : Go.Proofs.Lays2.n16 Tryz.prog Tryz.laysNm216_ren := {
  mixed := by kernel_rfl
  f16 := Tryz.func26.trans (congrArg some (by kernel_rfl))
  t4 := Tryz.underlying4
  a4 := Tryz.isAgg4
  z4 := Tryz.sizeOf4
  v4 := Tryz.zeroValue4
  t9 := Tryz.underlying9
  a9 := Tryz.isAgg9
  z9 := Tryz.sizeOf9
  v9 := Tryz.zeroValue9
  t24 := Tryz.underlying22
  a24 := Tryz.isAgg22
  z24 := Tryz.sizeOf22
  v24 := Tryz.zeroValue22
  i9 := by kernel_rfl }
open Go.RowKit Go.Lib in
theorem Tryz.slices_Clone_string (b off n c : Nat) (zs : List ByteArray) (w : World) (hz : n ≤ zs.length) (hbig : n * 16 ≤ 140737488355328) (hc : ∀ j, j < zs.length → w.cell? ⟨b, off + j, none⟩ = some (.string (zs.getD j ByteArray.empty))) :
    Calls Tryz.prog 26 #[.slice (some ⟨b, off, none⟩) n c] w fun e w' => ∃ v', e = .returned v' ∧ w'.ownsRow w.heap.size 9 1 v' n ((zs.take n).map (Value.string)) ∧ v' ≠ .slice none 0 0 ∧ Below w.heap.size w w' := Any.slices_Clone_string Tryz.laysNm216 b off n c zs w hz hbig hc
open Go.RowKit Go.Lib in
theorem Tryz.slices_Clone_string_nil (n c : Nat) (w : World) :
    Calls Tryz.prog 26 #[.slice none n c] w fun e w' => e = .returned (.slice none 0 0) ∧ w' = w := Any.slices_Clone_string_nil Tryz.laysNm216 n c w
open Go.RowKit Go.Lib in
theorem Tryz.slices_Clone_string_zero (a : Addr) (c : Nat) (w : World) :
    Calls Tryz.prog 26 #[.slice (some a) 0 c] w fun e w' => ∃ v', e = .returned v' ∧ w'.ownsRow w.heap.size 9 1 v' 0 [] ∧ v' ≠ .slice none 0 0 ∧ Below w.heap.size w w' := Any.slices_Clone_string_zero Tryz.laysNm216 a c w
open Go.RowKit Go.Sort in
theorem Tryz.slices_Sort_int_none (p : Option Addr) (cap : Nat) (w : World) :
    Calls Tryz.prog 40 #[.slice p 0 cap] w fun e w' => e = .returned (.tuple #[]) ∧ w' = w := Any.slices_Sort_int_none Tryz.lays189 p cap w
open Go.RowKit Go.Lib in
theorem Tryz.slices_Equal_string_lens (a1 a2 : Option Addr) (n c m d : Nat) (w : World) (hnm : n ≠ m) :
    Calls Tryz.prog 42 #[.slice a1 n c, .slice a2 m d] w fun e w' => e = .returned (.bool false) ∧ w' = w := Any.slices_Equal_string_lens Tryz.lays193 a1 a2 n c m d w hnm
def Tryz.laysSlE041_f26_ren : Go.Shelf.Ren := ⟨fun | 41 => 26 | n => n, fun | 22 => 22 | 23 => 9 | 4 => 4 | n => n, fun | n => n⟩
theorem Tryz.laysSlE041_f26 : Go.Proofs.SlLaysE0.n41 Tryz.prog Tryz.laysSlE041_f26_ren := {
  mixed := by kernel_rfl
  f41 := ⟨Tryz.f26.name, by decide, Tryz.func26.trans (congrArg some (by kernel_rfl))⟩
  t4 := Tryz.underlying4
  a4 := Tryz.isAgg4
  z4 := Tryz.sizeOf4
  v4 := Tryz.zeroValue4
  t22 := Tryz.underlying22
  a22 := Tryz.isAgg22
  z22 := Tryz.sizeOf22
  v22 := Tryz.zeroValue22 }
open Go.RowKit Go.Lib in
theorem Tryz.slices_Clone (i0 : TypeInfo) (z : Value) (size bytes : Nat) (hi : Tryz.prog.info? 9 = some i0) (hz0 : i0.zero = some z) (hz1 : i0.size = size) (hz2 : i0.bytes = bytes) (hzs : z.cells.size = size) (hsz : 0 < size) (z23 : ∀ w, (Go.sizeOf 9).run Tryz.prog w = .ok size w) (b off n c : Nat) (news : List Value) (w : World) (hl : news.length = n * size) (hn : n ≤ maxLen) (hbig : n * bytes ≤ 140737488355328) (hc : ∀ j u, news[j]? = some u → w.cell? ⟨b, off + j, none⟩ = some u) (h1 : ∀ u ∈ news, u.oneCell' = true) :
    Calls Tryz.prog 26 #[.slice (some ⟨b, off, none⟩) n c] w fun e w' => ∃ v', e = .returned v' ∧ w'.ownsRow w.heap.size 9 size v' n news ∧ v' ≠ .slice none 0 0 ∧ Below w.heap.size w w' := AnyE.slices_Clone Tryz.laysSlE041_f26 i0 z size bytes hi hz0 hz1 hz2 hzs hsz z23 b off n c news w hl hn hbig hc h1
open Go.RowKit Go.Lib in
theorem Tryz.slices_Clone_nil (n c : Nat) (w : World) :
    Calls Tryz.prog 26 #[.slice none n c] w fun e w' => e = .returned (.slice none 0 0) ∧ w' = w := AnyE.slices_Clone_nil Tryz.laysSlE041_f26 n c w
def Tryz.laysSlF6_f61_ren : Go.Shelf.Ren := ⟨fun | 6 => 61 | 15 => 70 | 14 => 75 | 28 => 91 | 29 => 92 | 20 => 101 | 21 => 102 | 22 => 103 | 23 => 104 | 24 => 105 | 25 => 106 | 26 => 107 | 27 => 108 | 46 => 124 | 47 => 117 | 48 => 118 | 49 => 125 | 50 => 126 | 57 => 133 | n => n, fun | 22 => 54 | 24 => 3 | 25 => 63 | 3 => 3 | 39 => 99 | 0 => 0 | 53 => 120 | 55 => 122 | 4 => 4 | 46 => 112 | 45 => 111 | 50 => 117 | 5 => 5 | 9 => 9 | 66 => 141 | 70 => 145 | 76 => 155 | 77 => 156 | n => n, fun | n => n⟩
theorem Tryz.laysSlF6_f61 : Go.Proofs.SlLaysF.n6 Tryz.prog Tryz.laysSlF6_f61_ren := {
  mixed := by kernel_rfl
  f6 := ⟨Tryz.f61.name, by decide, Tryz.func61.trans (congrArg some (by kernel_rfl))⟩
  f14 := ⟨Tryz.f75.name, by decide, Tryz.func75.trans (congrArg some (by kernel_rfl))⟩
  f15 := Tryz.func70.trans (congrArg some (by kernel_rfl))
  f20 := ⟨Tryz.f101.name, by decide, Tryz.func101.trans (congrArg some (by kernel_rfl))⟩
  f21 := ⟨Tryz.f102.name, by decide, Tryz.func102.trans (congrArg some (by kernel_rfl))⟩
  f22 := ⟨Tryz.f103.name, by decide, Tryz.func103.trans (congrArg some (by kernel_rfl))⟩
  f23 := ⟨Tryz.f104.name, by decide, Tryz.func104.trans (congrArg some (by kernel_rfl))⟩
  f24 := ⟨Tryz.f105.name, by decide, Tryz.func105.trans (congrArg some (by kernel_rfl))⟩
  f25 := ⟨Tryz.f106.name, by decide, Tryz.func106.trans (congrArg some (by kernel_rfl))⟩
  f26 := ⟨Tryz.f107.name, by decide, Tryz.func107.trans (congrArg some (by kernel_rfl))⟩
  f27 := ⟨Tryz.f108.name, by decide, Tryz.func108.trans (congrArg some (by kernel_rfl))⟩
  f28 := Tryz.func91.trans (congrArg some (by kernel_rfl))
  f29 := Tryz.func92.trans (congrArg some (by kernel_rfl))
  f46 := ⟨Tryz.f124.name, by decide, Tryz.func124.trans (congrArg some (by kernel_rfl))⟩
  f47 := Tryz.func117.trans (congrArg some (by kernel_rfl))
  f48 := Tryz.func118.trans (congrArg some (by kernel_rfl))
  f49 := ⟨Tryz.f125.name, by decide, Tryz.func125.trans (congrArg some (by kernel_rfl))⟩
  f50 := ⟨Tryz.f126.name, by decide, Tryz.func126.trans (congrArg some (by kernel_rfl))⟩
  f57 := ⟨Tryz.f133.name, by decide, Tryz.func133.trans (congrArg some (by kernel_rfl))⟩
  t0 := Tryz.underlying0
  a0 := Tryz.isAgg0
  z0 := Tryz.sizeOf0
  v0 := Tryz.zeroValue0
  t3 := Tryz.underlying3
  a3 := Tryz.isAgg3
  z3 := Tryz.sizeOf3
  v3 := Tryz.zeroValue3
  t4 := Tryz.underlying4
  a4 := Tryz.isAgg4
  z4 := Tryz.sizeOf4
  v4 := Tryz.zeroValue4
  t5 := Tryz.underlying5
  a5 := Tryz.isAgg5
  z5 := Tryz.sizeOf5
  v5 := Tryz.zeroValue5
  t9 := Tryz.underlying9
  a9 := Tryz.isAgg9
  z9 := Tryz.sizeOf9
  v9 := Tryz.zeroValue9
  t22 := Tryz.underlying54
  a22 := Tryz.isAgg54
  z22 := Tryz.sizeOf54
  v22 := Tryz.zeroValue54
  a24 := Tryz.isAgg3
  z24 := Tryz.sizeOf3
  t25 := Tryz.underlying63
  a25 := Tryz.isAgg63
  z25 := Tryz.sizeOf63
  v25 := Tryz.zeroValue63
  t39 := Tryz.underlying99
  a39 := Tryz.isAgg99
  z39 := Tryz.sizeOf99
  v39 := Tryz.zeroValue99
  t45 := Tryz.underlying111
  a45 := Tryz.isAgg111
  z45 := Tryz.sizeOf111
  v45 := Tryz.zeroValue111
  t46 := Tryz.underlying112
  a46 := Tryz.isAgg112
  z46 := Tryz.sizeOf112
  v46 := Tryz.zeroValue112
  t50 := Tryz.underlying117
  a50 := Tryz.isAgg117
  z50 := Tryz.sizeOf117
  v50 := Tryz.zeroValue117
  t53 := Tryz.underlying120
  a53 := Tryz.isAgg120
  z53 := Tryz.sizeOf120
  v53 := Tryz.zeroValue120
  t55 := Tryz.underlying122
  a55 := Tryz.isAgg122
  z55 := Tryz.sizeOf122
  v55 := Tryz.zeroValue122
  t66 := Tryz.underlying141
  a66 := Tryz.isAgg141
  z66 := Tryz.sizeOf141
  v66 := Tryz.zeroValue141
  t70 := Tryz.underlying145
  a70 := Tryz.isAgg145
  z70 := Tryz.sizeOf145
  v70 := Tryz.zeroValue145
  t76 := Tryz.underlying155
  a76 := Tryz.isAgg155
  z76 := Tryz.sizeOf155
  v76 := Tryz.zeroValue155
  t77 := Tryz.underlying156
  a77 := Tryz.isAgg156
  z77 := Tryz.sizeOf156
  v77 := Tryz.zeroValue156 }
open Go.RowKit Go.Lib Go.Sort in
theorem Tryz.slices_SortFunc {α : Type} [Inhabited α] (enc : α → Value) (h1 : OneCell enc) (cf : α → α → Int) (hO : SWO (ltOf cf)) (g : Nat) (cb : Array Value) (blk off cap : Nat) (d : Array α) (w : World) (eg : ∀ args w, (callFunc g args).run Tryz.prog w = .ok (.enter g args) w) (hcmp : CmpLays1 Tryz.prog g cb enc cf blk off d.size w) (hH : Holds enc w blk off d) (hblk : blk < w.heap.size) (hsz : d.size < 4611686018427387904) :
    Calls Tryz.prog 61 #[.slice (some ⟨blk, off, none⟩) d.size cap, .func (.func g) #[] cb] w fun e w' =>
      e = .returned (.tuple #[]) ∧ ∃ d' n os, PermIn 0 d.size d d' ∧ SortedIn (ltOf cf) 0 d.size d' ∧ w' = sortWorld enc w blk off n d' os := Any.slices_SortFunc Tryz.laysSlF6_f61 enc h1 cf hO g cb blk off cap d w eg hcmp hH hblk hsz
def Tryz.laysSlF06_f61_ren : Go.Shelf.Ren := ⟨fun | 6 => 61 | 15 => 70 | 14 => 75 | 28 => 91 | 29 => 92 | 20 => 101 | 21 => 102 | 22 => 103 | 23 => 104 | 24 => 105 | 25 => 106 | 26 => 107 | 27 => 108 | 46 => 124 | 47 => 117 | 48 => 118 | 49 => 125 | 50 => 126 | 57 => 133 | n => n, fun | 22 => 54 | 24 => 3 | 25 => 63 | 3 => 3 | 39 => 99 | 0 => 0 | 53 => 120 | 55 => 122 | 4 => 4 | 46 => 112 | 45 => 111 | 50 => 117 | 5 => 5 | 9 => 9 | 66 => 141 | 70 => 145 | 76 => 155 | 77 => 156 | n => n, fun | n => n⟩
theorem Tryz.laysSlF06_f61 : Go.Proofs.SlLaysF0.n6 Tryz.prog Tryz.laysSlF06_f61_ren := {
  mixed := by kernel_rfl
  f6 := ⟨Tryz.f61.name, by decide, Tryz.func61.trans (congrArg some (by kernel_rfl))⟩
  f14 := ⟨Tryz.f75.name, by decide, Tryz.func75.trans (congrArg some (by kernel_rfl))⟩
  f15 := Tryz.func70.trans (congrArg some (by kernel_rfl))
  f20 := ⟨Tryz.f101.name, by decide, Tryz.func101.trans (congrArg some (by kernel_rfl))⟩
  f21 := ⟨Tryz.f102.name, by decide, Tryz.func102.trans (congrArg some (by kernel_rfl))⟩
  f22 := ⟨Tryz.f103.name, by decide, Tryz.func103.trans (congrArg some (by kernel_rfl))⟩
  f23 := ⟨Tryz.f104.name, by decide, Tryz.func104.trans (congrArg some (by kernel_rfl))⟩
  f24 := ⟨Tryz.f105.name, by decide, Tryz.func105.trans (congrArg some (by kernel_rfl))⟩
  f25 := ⟨Tryz.f106.name, by decide, Tryz.func106.trans (congrArg some (by kernel_rfl))⟩
  f26 := ⟨Tryz.f107.name, by decide, Tryz.func107.trans (congrArg some (by kernel_rfl))⟩
  f27 := ⟨Tryz.f108.name, by decide, Tryz.func108.trans (congrArg some (by kernel_rfl))⟩
  f28 := Tryz.func91.trans (congrArg some (by kernel_rfl))
  f29 := Tryz.func92.trans (congrArg some (by kernel_rfl))
  f46 := ⟨Tryz.f124.name, by decide, Tryz.func124.trans (congrArg some (by kernel_rfl))⟩
  f47 := Tryz.func117.trans (congrArg some (by kernel_rfl))
  f48 := Tryz.func118.trans (congrArg some (by kernel_rfl))
  f49 := ⟨Tryz.f125.name, by decide, Tryz.func125.trans (congrArg some (by kernel_rfl))⟩
  f50 := ⟨Tryz.f126.name, by decide, Tryz.func126.trans (congrArg some (by kernel_rfl))⟩
  f57 := ⟨Tryz.f133.name, by decide, Tryz.func133.trans (congrArg some (by kernel_rfl))⟩
  t0 := Tryz.underlying0
  a0 := Tryz.isAgg0
  z0 := Tryz.sizeOf0
  v0 := Tryz.zeroValue0
  t3 := Tryz.underlying3
  a3 := Tryz.isAgg3
  z3 := Tryz.sizeOf3
  v3 := Tryz.zeroValue3
  t4 := Tryz.underlying4
  a4 := Tryz.isAgg4
  z4 := Tryz.sizeOf4
  v4 := Tryz.zeroValue4
  t5 := Tryz.underlying5
  a5 := Tryz.isAgg5
  z5 := Tryz.sizeOf5
  v5 := Tryz.zeroValue5
  t9 := Tryz.underlying9
  a9 := Tryz.isAgg9
  z9 := Tryz.sizeOf9
  v9 := Tryz.zeroValue9
  t22 := Tryz.underlying54
  a22 := Tryz.isAgg54
  z22 := Tryz.sizeOf54
  v22 := Tryz.zeroValue54
  t25 := Tryz.underlying63
  a25 := Tryz.isAgg63
  z25 := Tryz.sizeOf63
  v25 := Tryz.zeroValue63
  t39 := Tryz.underlying99
  a39 := Tryz.isAgg99
  z39 := Tryz.sizeOf99
  v39 := Tryz.zeroValue99
  t45 := Tryz.underlying111
  a45 := Tryz.isAgg111
  z45 := Tryz.sizeOf111
  v45 := Tryz.zeroValue111
  t46 := Tryz.underlying112
  a46 := Tryz.isAgg112
  z46 := Tryz.sizeOf112
  v46 := Tryz.zeroValue112
  t50 := Tryz.underlying117
  a50 := Tryz.isAgg117
  z50 := Tryz.sizeOf117
  v50 := Tryz.zeroValue117
  t53 := Tryz.underlying120
  a53 := Tryz.isAgg120
  z53 := Tryz.sizeOf120
  v53 := Tryz.zeroValue120
  t55 := Tryz.underlying122
  a55 := Tryz.isAgg122
  z55 := Tryz.sizeOf122
  v55 := Tryz.zeroValue122
  t66 := Tryz.underlying141
  a66 := Tryz.isAgg141
  z66 := Tryz.sizeOf141
  v66 := Tryz.zeroValue141
  t70 := Tryz.underlying145
  a70 := Tryz.isAgg145
  z70 := Tryz.sizeOf145
  v70 := Tryz.zeroValue145
  t76 := Tryz.underlying155
  a76 := Tryz.isAgg155
  z76 := Tryz.sizeOf155
  v76 := Tryz.zeroValue155
  t77 := Tryz.underlying156
  a77 := Tryz.isAgg156
  z77 := Tryz.sizeOf156
  v77 := Tryz.zeroValue156 }
open Go.RowKit Go.Lib Go.Sort in
theorem Tryz.slices_SortFunc_none {α : Type} [Inhabited α] (p : Option Addr) (cap : Nat) (fv : Value) (w : World) :
    Calls Tryz.prog 61 #[.slice p 0 cap, fv] w fun e w' => e = .returned (.tuple #[]) ∧ w' = w := AnyF.slices_SortFunc_none Tryz.laysSlF06_f61 p cap fv w
end Go.Proofs

namespace Go.Proofs.YtiliaincniiijaaGreat
open Go.RowKit Go.Shelf

/-- The two words of a number of 128 bits. -/
def hi (x : Int) : Int := x / 18446744073709551616
def lo (x : Int) : Int := x % 18446744073709551616
theorem mul64 (x y : Int) (w : World) (hx : 0 ≤ x) (hx' : x < 18446744073709551616) (hy : 0 ≤ y) (hy' : y < 18446744073709551616) :
    Calls Tryz.prog 136 #[.int .u64 x, .int .u64 y] w fun e w' => e = .returned (.tuple #[.int .u64 (hi (x * y)), .int .u64 (lo (x * y))]) ∧ w' = w := by
  obtain ⟨x, rfl⟩ := Int.eq_ofNat_of_zero_le hx
  obtain ⟨y, rfl⟩ := Int.eq_ofNat_of_zero_le hy
  refine (Tryz.bits_Mul64 x y (by omega) (by omega) w).mono ?_
  rintro e w' ⟨rfl, rfl⟩
  refine ⟨?_, rfl⟩
  unfold hi lo
  simp

theorem times_any (x y : Int) (w : World) (hx : 0 ≤ x) (hx' : x < 18446744073709551616) (hy : 0 ≤ y) (hy' : y < 18446744073709551616) :
    Calls Tryz.prog 135 #[.int .u64 x, .int .u64 y] w fun e w' => e = .returned (.agg #[.int .u64 (hi (x * y)), .int .u64 (lo (x * y))]) ∧ Below w.heap.size w w' := by
  go_enter Tryz.func135, Tryz.ntmps135
  go_wp2_with (first
    | (go_at_call 136; refine (mul64 x y _ hx hx' hy hy').mono ?_; rintro e w1 ⟨rfl, rfl⟩))
  go_returns
  exact ⟨rfl, by go_grown⟩

theorem lower_raw (ah al bh bl : Int) (w : World) :
    Calls Tryz.prog 134 #[.agg #[.int .u64 ah, .int .u64 al], .agg #[.int .u64 bh, .int .u64 bl]] w fun e w' =>
      e = .returned (.bool (if ah = bh then decide (al < bl) else decide (ah < bh))) ∧ Below w.heap.size w w' := by
  by_cases h : ah = bh
  · subst h
    go_enter Tryz.func134, Tryz.ntmps134
    go_wp2
    go_ret
    exact ⟨by simp, by go_grown⟩
  · have h' : (ah != bh) = true := by simpa using h
    go_enter Tryz.func134, Tryz.ntmps134
    go_wp2
    go_ret
    exact ⟨by simp, by go_grown⟩

theorem lower_any (x y : Int) (w : World) :
    Calls Tryz.prog 134 #[.agg #[.int .u64 (hi x), .int .u64 (lo x)], .agg #[.int .u64 (hi y), .int .u64 (lo y)]] w fun e w' =>
      e = .returned (.bool (decide (x < y))) ∧ Below w.heap.size w w' := by
  refine (lower_raw _ _ _ _ w).mono ?_
  rintro e w' ⟨rfl, hb⟩
  refine ⟨?_, hb⟩
  have e : (if hi x = hi y then decide (lo x < lo y) else decide (hi x < hi y)) = decide (x < y) := by
    unfold hi lo
    split <;> (rw [decide_eq_decide]; omega)
  rw [e]

end Go.Proofs.YtiliaincniiijaaGreat

namespace Go.Proofs.YtiliaincniiijaaGreat

end Go.Proofs.YtiliaincniiijaaGreat

namespace Go.Proofs.YtiliaincniiijaaGreat
open Go.RowKit Go.Shelf

end Go.Proofs.YtiliaincniiijaaGreat

namespace Go.Proofs.YtiliaincniiijaaGreat
open Go.RowKit Go.Shelf

/-- What a caller with k blocks of its own knows behind a callee that only makes new memory. -/
theorem bf2 {w W w1 : World} (h0 : Below w.heap.size w W) (hn : w.heap.size + 2 ≤ W.heap.size) (hb : Below W.heap.size W w1) :
    (∀ b o, b < W.heap.size → w1.cell? ⟨b, o, none⟩ = W.cell? ⟨b, o, none⟩) ∧ (∀ b o, b < W.heap.size → w1.frozen? ⟨b, o, none⟩ = W.frozen? ⟨b, o, none⟩) ∧ Below w.heap.size w w1 ∧ w.heap.size < w1.heap.size ∧ w.heap.size + 1 < w1.heap.size :=
  ⟨fun b o h => hb.cell (p := ⟨b, o, none⟩) h, fun b o h => hb.frozen (p := ⟨b, o, none⟩) h, h0.trans (hb.mono h0.size), by have := hb.size; omega, by have := hb.size; omega⟩
theorem bg {n : Nat} {W0 W w1 : World} (h0 : Below n W0 W) (hn : n ≤ W.heap.size) (hb : Below W.heap.size W w1) :
    (∀ b o, b < W.heap.size → w1.cell? ⟨b, o, none⟩ = W.cell? ⟨b, o, none⟩) ∧ (∀ b o, b < W.heap.size → w1.frozen? ⟨b, o, none⟩ = W.frozen? ⟨b, o, none⟩) ∧ (∀ i, i < W.heap.size → i < w1.heap.size) ∧ Below n W0 w1 ∧ n ≤ w1.heap.size ∧ (∀ i, i < n → i < w1.heap.size) :=
  ⟨fun b o h => hb.cell (p := ⟨b, o, none⟩) h, fun b o h => hb.frozen (p := ⟨b, o, none⟩) h, fun _ h => Nat.lt_of_lt_of_le h hb.size, h0.trans (hb.mono hn), Nat.le_trans hn hb.size, fun _ h => Nat.lt_of_lt_of_le h (Nat.le_trans hn hb.size)⟩
theorem bcl {n : Nat} {W0 wx : World} (h : Below n W0 wx) {a : Addr} {v : Value} (hv : W0.cell? a = some v) (ha : a.block < n) : wx.cell? a = some v := (h.cell ha).trans hv
end Go.Proofs.YtiliaincniiijaaGreat

namespace Go.Proofs.YtiliaincniiijaaGreat
open Go.RowKit Go.Shelf

end Go.Proofs.YtiliaincniiijaaGreat

namespace Go.Proofs.YtiliaincniiijaaGreat
open Go.RowKit Go.Shelf

/-- The order of two fractions by signs and sizes. -/
def lessB (xb : Bool) (xn xd : Int) (yb : Bool) (yn yd : Int) : Bool := if xb = yb then (if xb then decide (yn * xd < xn * yd) else decide (xn * yd < yn * xd)) else xb

theorem less_apart (xb yb : Bool) (xn xd yn yd : Int) (w : World) (h : xb ≠ yb) :
    Calls Tryz.prog 129 #[.agg #[.bool xb, .int .u64 xn, .int .u64 xd], .agg #[.bool yb, .int .u64 yn, .int .u64 yd]] w fun e w' => e = .returned (.bool xb) ∧ Below w.heap.size w w' := by
  have hne : (xb == yb) = false := by simpa using h
  go_enter Tryz.func129, Tryz.ntmps129
  go_wp2
  go_ret
  exact ⟨rfl, by go_grown⟩

set_option maxHeartbeats 1000000 in
theorem less_pos (xn xd yn yd : Int) (w : World) (hxn : 0 ≤ xn) (hxn' : xn < 18446744073709551616) (hyn : 0 ≤ yn) (hyn' : yn < 18446744073709551616) (hxd : 0 ≤ xd) (hxd' : xd < 18446744073709551616) (hyd : 0 ≤ yd) (hyd' : yd < 18446744073709551616) :
    Calls Tryz.prog 129 #[.agg #[.bool false, .int .u64 xn, .int .u64 xd], .agg #[.bool false, .int .u64 yn, .int .u64 yd]] w fun e w' => e = .returned (.bool (decide (xn * yd < yn * xd))) ∧ Below w.heap.size w w' := by
  go_enter Tryz.func129, Tryz.ntmps129
  go_wp2
  go_region_held3 (fun w' => w'.cell? ⟨w.heap.size, 1, none⟩ = some (.int .u64 xn) ∧ w'.cell? ⟨w.heap.size, 2, none⟩ = some (.int .u64 xd) ∧ w'.cell? ⟨w.heap.size + 1, 1, none⟩ = some (.int .u64 yn) ∧ w'.cell? ⟨w.heap.size + 1, 2, none⟩ = some (.int .u64 yd)) (simp [go_sem, *])
    (first
      | (go_at_call_of 135 xn; refine (times_any xn yd _ (by omega) (by omega) (by omega) (by omega)).mono ?_; rintro e w1 ⟨rfl, hb1⟩; obtain ⟨hc1, hf1, hB1, za1, zb1⟩ := bf2 (w := w) (by go_grown) (by go_size) hb1)
      | (go_at_call_of 135 yn; refine (times_any yn xd _ (by omega) (by omega) (by omega) (by omega)).mono ?_; rintro e w2 ⟨rfl, hb2⟩; obtain ⟨hc2, hf2, hB2, za2, zb2⟩ := bf2 (w := w) (by go_grown) (by go_size) hb2)
      | (go_at_call 134; refine (lower_any (xn * yd) (yn * xd) _).mono ?_; rintro e w3 ⟨rfl, hb3⟩; obtain ⟨hc3, hf3, hB3, za3, zb3⟩ := bf2 (w := w) (by go_grown) (by go_size) hb3))
  go_wp2
  go_ret
  exact ⟨rfl, by go_grown⟩

set_option maxHeartbeats 1000000 in
theorem less_neg (xn xd yn yd : Int) (w : World) (hxn : 0 ≤ xn) (hxn' : xn < 18446744073709551616) (hyn : 0 ≤ yn) (hyn' : yn < 18446744073709551616) (hxd : 0 ≤ xd) (hxd' : xd < 18446744073709551616) (hyd : 0 ≤ yd) (hyd' : yd < 18446744073709551616) :
    Calls Tryz.prog 129 #[.agg #[.bool true, .int .u64 xn, .int .u64 xd], .agg #[.bool true, .int .u64 yn, .int .u64 yd]] w fun e w' => e = .returned (.bool (decide (yn * xd < xn * yd))) ∧ Below w.heap.size w w' := by
  go_enter Tryz.func129, Tryz.ntmps129
  go_wp2
  go_region_held3 (fun w' => w'.cell? ⟨w.heap.size, 1, none⟩ = some (.int .u64 yn) ∧ w'.cell? ⟨w.heap.size, 2, none⟩ = some (.int .u64 yd) ∧ w'.cell? ⟨w.heap.size + 1, 1, none⟩ = some (.int .u64 xn) ∧ w'.cell? ⟨w.heap.size + 1, 2, none⟩ = some (.int .u64 xd)) (simp [go_sem, *])
    (first
      | (go_at_call_of 135 yn; refine (times_any yn xd _ (by omega) (by omega) (by omega) (by omega)).mono ?_; rintro e w1 ⟨rfl, hb1⟩; obtain ⟨hc1, hf1, hB1, za1, zb1⟩ := bf2 (w := w) (by go_grown) (by go_size) hb1)
      | (go_at_call_of 135 xn; refine (times_any xn yd _ (by omega) (by omega) (by omega) (by omega)).mono ?_; rintro e w2 ⟨rfl, hb2⟩; obtain ⟨hc2, hf2, hB2, za2, zb2⟩ := bf2 (w := w) (by go_grown) (by go_size) hb2)
      | (go_at_call 134; refine (lower_any (yn * xd) (xn * yd) _).mono ?_; rintro e w3 ⟨rfl, hb3⟩; obtain ⟨hc3, hf3, hB3, za3, zb3⟩ := bf2 (w := w) (by go_grown) (by go_size) hb3))
  go_wp2
  go_ret
  exact ⟨rfl, by go_grown⟩

theorem less_any (xb yb : Bool) (xn xd yn yd : Int) (w : World) (hxn : 0 ≤ xn) (hxn' : xn < 18446744073709551616) (hyn : 0 ≤ yn) (hyn' : yn < 18446744073709551616) (hxd : 0 ≤ xd) (hxd' : xd < 18446744073709551616) (hyd : 0 ≤ yd) (hyd' : yd < 18446744073709551616) :
    Calls Tryz.prog 129 #[.agg #[.bool xb, .int .u64 xn, .int .u64 xd], .agg #[.bool yb, .int .u64 yn, .int .u64 yd]] w fun e w' => e = .returned (.bool (lessB xb xn xd yb yn yd)) ∧ Below w.heap.size w w' := by
  by_cases h : xb = yb
  · subst h
    cases xb
    · have e : lessB false xn xd false yn yd = decide (xn * yd < yn * xd) := by simp [lessB]
      rw [e]; exact less_pos xn xd yn yd w hxn hxn' hyn hyn' hxd hxd' hyd hyd'
    · have e : lessB true xn xd true yn yd = decide (yn * xd < xn * yd) := by simp [lessB]
      rw [e]; exact less_neg xn xd yn yd w hxn hxn' hyn hyn' hxd hxd' hyd hyd'
  · have e : lessB xb xn xd yb yn yd = xb := by simp [lessB, h]
    rw [e]; exact less_apart xb yb xn xd yn yd w h

end Go.Proofs.YtiliaincniiijaaGreat

namespace Go.Proofs.YtiliaincniiijaaGreat

end Go.Proofs.YtiliaincniiijaaGreat

namespace Go.Proofs.YtiliaincniiijaaGreat
open Go.RowKit Go.Shelf

theorem bg0 {n : Nat} {W0 W w1 : World} (h0 : Below n W0 W) (hn : n ≤ W.heap.size) (hb : Below W.heap.size W w1) : Below n W0 w1 ∧ n ≤ w1.heap.size := ⟨h0.trans (hb.mono hn), Nat.le_trans hn hb.size⟩

theorem may_of {n d : Int} (h : mayB n d = true) : 0 < d ∧ Nat.Coprime n.natAbs d.toNat := by
  unfold mayB oE oN oD at h
  by_cases hd : d = 0
  · simp [hd] at h
  · simp only [hd, if_false, Bool.and_eq_true, beq_iff_eq] at h
    obtain ⟨h1, h2, h3⟩ := h
    have hs : 0 < sz d := by unfold sz; omega
    have hg := gc_pos (sz (ofP n d)) (sz d) hs
    have hdv := gc_dvd_right (sz (ofP n d)) (sz d) (by omega)
    unfold rE outE at h1
    unfold rD outD at h3
    unfold rN outN at h2
    split at h1
    · rename_i hok
      rw [if_pos hok] at h2 h3
      have hp : 0 < d := by
        have : 0 ≤ sz d / gc (sz (ofP n d)) (sz d) := Int.ediv_nonneg (by omega) (by omega)
        omega
      have e1 : sz d = d := sz_of_nonneg (by omega)
      have e2 : ofP n d = n := by unfold ofP sg; simp [show ¬ d < 0 by omega]
      rw [e1, e2] at h3 hdv hg
      have e3 := Int.ediv_mul_cancel hdv
      rw [h3] at e3
      have e4 : gc (sz n) d = 1 := by
        have : d * gc (sz n) d = d * 1 := by rw [e3, Int.mul_one]
        exact Int.eq_of_mul_eq_mul_left (by omega) this
      refine ⟨hp, ?_⟩
      unfold gc sz at e4
      have : Nat.gcd ((n.natAbs : Int)).toNat d.toNat = 1 := by omega
      simpa using this
    · simp at h1

end Go.Proofs.YtiliaincniiijaaGreat

namespace Go.Proofs.YtiliaincniiijaaGreat
open Go.RowKit Go.Shelf

end Go.Proofs.YtiliaincniiijaaGreat

namespace Go.Proofs.YtiliaincniiijaaGreat
open Go.RowKit Go.Shelf

end Go.Proofs.YtiliaincniiijaaGreat

namespace Go.Proofs.YtiliaincniiijaaGreat
open Go.RowKit Go.Shelf

/-- May a value be, its length aside? -/
def pureB (k n d : Int) (s : ByteArray) : Bool := if k = 1 then d == 0 && s.toList.isEmpty else if k = 2 then mayB n d && s.toList.isEmpty else if k = 3 then n == 0 && d == 0 else false
/-- Why a value may not be. -/
def chk (k n d : Int) (s : ByteArray) : Int := if pureB k n d s = false then 20 else if 64 < s.size then 2 else 0

theorem ret_bool {a b : Bool} (h : a = b) : Ending.returned (.bool a) = .returned (.bool b) := by rw [h]

set_option maxRecDepth 100000 in
set_option maxHeartbeats 1000000 in
theorem pure_any (k n d : Int) (s : ByteArray) (w : World) (h1 : -9223372036854775808 ≤ n) (h2 : n ≤ 9223372036854775807) (g1 : -9223372036854775808 ≤ d) (g2 : d ≤ 9223372036854775807) :
    Calls Tryz.prog 64 #[.agg #[.int .i64 k, .int .i64 n, .int .i64 d, .string s]] w fun e w' => e = .returned (.bool (pureB k n d s)) ∧ Below w.heap.size w w' := by
  by_cases k1 : k = 1
  · subst k1
    cases hd : d == 0
    · go_enter Tryz.func64, Tryz.ntmps64
      go_wp2
      go_ret
      exact ⟨ret_bool (by simp [pureB, hd]), by go_grown⟩
    · have hd' : d = 0 := by simpa using hd
      subst hd'
      go_enter Tryz.func64, Tryz.ntmps64
      go_wp2
      go_ret
      exact ⟨ret_bool (by simp [pureB]), by go_grown⟩
  · have k1' : (k == 1) = false := by simpa using k1
    by_cases k2 : k = 2
    · subst k2
      have e0 : pureB 2 n d s = (mayB n d && s.toList.isEmpty) := by simp [pureB]
      rw [e0]
      by_cases a1 : oE n d = 0
      · cases m : (oN n d == n && oD n d == d)
        · go_enter Tryz.func64, Tryz.ntmps64
          go_wp2_with (first
            | (go_at_call 77; refine (of_all _ _ _ h1 h2 g1 g2).mono ?_; rintro e w1 ⟨rfl, hb⟩; obtain ⟨hc, hf, hz, hB⟩ := bf (w := w) (by go_grown) hb; simp only [World.size_alloc] at hz; have z0 : w.heap.size < w1.heap.size := (by omega)))
          all_goals
            go_ret
            exact ⟨ret_bool (by simp_all [mayB]), by go_grown⟩
        · go_enter Tryz.func64, Tryz.ntmps64
          go_wp2_with (first
            | (go_at_call 77; refine (of_all _ _ _ h1 h2 g1 g2).mono ?_; rintro e w1 ⟨rfl, hb⟩; obtain ⟨hc, hf, hz, hB⟩ := bf (w := w) (by go_grown) hb; simp only [World.size_alloc] at hz; have z0 : w.heap.size < w1.heap.size := (by omega)))
          all_goals
            go_ret
            exact ⟨ret_bool (by simp_all [mayB]), by go_grown⟩
      · have a2 : (oE n d == 0) = false := by simpa using a1
        go_enter Tryz.func64, Tryz.ntmps64
        go_wp2_with (first
          | (go_at_call 77; refine (of_all _ _ _ h1 h2 g1 g2).mono ?_; rintro e w1 ⟨rfl, hb⟩; obtain ⟨hc, hf, hz, hB⟩ := bf (w := w) (by go_grown) hb; simp only [World.size_alloc] at hz; have z0 : w.heap.size < w1.heap.size := (by omega)))
        all_goals
          go_ret
          exact ⟨ret_bool (by simp [mayB, a2]), by go_grown⟩
    · have k2' : (k == 2) = false := by simpa using k2
      by_cases k3 : k = 3
      · subst k3
        have e0 : pureB 3 n d s = (n == 0 && d == 0) := by simp [pureB]
        rw [e0]
        cases hn : n == 0
        · go_enter Tryz.func64, Tryz.ntmps64
          go_wp2
          go_ret
          exact ⟨ret_bool (by simp), by go_grown⟩
        · go_enter Tryz.func64, Tryz.ntmps64
          go_wp2
          go_ret
          exact ⟨ret_bool (by simp), by go_grown⟩
      · have k3' : (k == 3) = false := by simpa using k3
        have e0 : pureB k n d s = false := by simp [pureB, k1, k2, k3]
        rw [e0]
        go_enter Tryz.func64, Tryz.ntmps64
        go_wp2
        go_ret
        exact ⟨rfl, by go_grown⟩

end Go.Proofs.YtiliaincniiijaaGreat

namespace Go.Proofs.YtiliaincniiijaaGreat
open Go.RowKit Go.Shelf

set_option maxRecDepth 100000 in
set_option maxHeartbeats 1000000 in
theorem check_any (k n d : Int) (s : ByteArray) (w : World) (h1 : -9223372036854775808 ≤ n) (h2 : n ≤ 9223372036854775807) (g1 : -9223372036854775808 ≤ d) (g2 : d ≤ 9223372036854775807) :
    Calls Tryz.prog 36 #[.agg #[.int .i64 k, .int .i64 n, .int .i64 d, .string s]] w fun e w' => e = .returned (.int .i64 (chk k n d s)) ∧ Below w.heap.size w w' := by
  cases hp : pureB k n d s
  · have e0 : chk k n d s = 20 := by simp [chk, hp]
    rw [e0]
    go_enter Tryz.func36, Tryz.ntmps36
    go_wp2_with fail
    refine (pure_any k n d s _ h1 h2 g1 g2).mono ?_
    rintro e w1 ⟨rfl, hb⟩
    obtain ⟨hc, hf, hz, hB⟩ := bf (w := w) (by go_grown) hb
    rw [hp]
    go_wp2
    go_ret
    exact ⟨rfl, hB⟩
  · by_cases hl : 64 < s.size
    · have e0 : chk k n d s = 2 := by simp [chk, hp, hl]
      rw [e0]
      have hl' : (64 : Int) < s.size := by omega
      go_enter Tryz.func36, Tryz.ntmps36
      go_wp2_with fail
      refine (pure_any k n d s _ h1 h2 g1 g2).mono ?_
      rintro e w1 ⟨rfl, hb⟩
      obtain ⟨hc, hf, hz, hB⟩ := bf (w := w) (by go_grown) hb
      rw [hp]
      go_wp2
      go_ret
      exact ⟨rfl, hB⟩
    · have e0 : chk k n d s = 0 := by simp [chk, hp, hl]
      rw [e0]
      have hl' : ((64 : Int) < s.size) = False := by simp; omega
      go_enter Tryz.func36, Tryz.ntmps36
      go_wp2_with fail
      refine (pure_any k n d s _ h1 h2 g1 g2).mono ?_
      rintro e w1 ⟨rfl, hb⟩
      obtain ⟨hc, hf, hz, hB⟩ := bf (w := w) (by go_grown) hb
      rw [hp]
      go_wp2
      go_ret
      exact ⟨rfl, hB⟩

set_option maxRecDepth 100000 in
set_option maxHeartbeats 400000 in
theorem frac_any (k n d : Int) (s : ByteArray) (w : World) :
    Calls Tryz.prog 115 #[.agg #[.int .i64 k, .int .i64 n, .int .i64 d, .string s]] w fun e w' => e = .returned (.agg #[.int .i64 n, .int .i64 (if k = 1 then 1 else d)]) ∧ ∃ c1 c2 : Array Value, w' = (w.alloc (.cells c1 45)).alloc (.cells c2 106) := by
  by_cases hk : k = 1
  · subst hk
    go_enter Tryz.func115, Tryz.ntmps115
    go_wp2
    go_returns
    exact ⟨rfl, _, _, rfl⟩
  · have hk' : (k == 1) = false := by simpa using hk
    rw [if_neg hk]
    go_enter Tryz.func115, Tryz.ntmps115
    go_wp2
    go_returns
    exact ⟨rfl, _, _, rfl⟩

end Go.Proofs.YtiliaincniiijaaGreat

namespace Go.Proofs.YtiliaincniiijaaGreat

end Go.Proofs.YtiliaincniiijaaGreat

namespace Go.Proofs.YtiliaincniiijaaGreat
open Go.RowKit

/-- The digits of a number. -/
def g0 (x : Int) : Int := x % 4294967296
def g1 (x : Int) : Int := x / 4294967296 % 4294967296
def g2 (x : Int) : Int := x / 18446744073709551616 % 4294967296
def g3 (x : Int) : Int := x / 79228162514264337593543950336 % 4294967296
end Go.Proofs.YtiliaincniiijaaGreat

namespace Go.Proofs.YtiliaincniiijaaGreat
open Go.RowKit

theorem wp_world {P : Program} {c : Code} {Q : Exit → Act → World → Prop} {a : Act} {w : World} (h : ∀ W, W = w → c.wp P Q a W) : c.wp P Q a w := h w rfl

end Go.Proofs.YtiliaincniiijaaGreat

namespace Go.Proofs.YtiliaincniiijaaGreat
open Go.RowKit Go.Shelf

/-- The table of the powers of ten lies as it was laid. -/
def Pow (w : World) : Prop := Lib.TabIs Tryz.prog w "internal/strconv.uint64pow10" .u64 Lib.pow10Tab
theorem Pow.below {w W : World} (h : Pow w) (hb : Below w.heap.size w W) : Pow W := Lib.tabBelow_of_tabIs h W hb

theorem below_grow (w : World) (k : Nat) (os : Array Obj) : Below w.heap.size w (Sort.grow (w.drewN k) os) :=
  ⟨rfl, rfl, rfl, by simp [Sort.grow], fun i hi => by simp [Sort.grow, Array.getElem?_append, hi]⟩

end Go.Proofs.YtiliaincniiijaaGreat

namespace Go.Proofs.YtiliaincniiijaaGreat
open Go.RowKit Go.Shelf

/-- A block that holds a value, which may be written. -/
structure BlkV (W : World) (B : Nat) (k n d : Int) (s : ByteArray) : Prop where
  c0 : W.cell? ⟨B, 0, none⟩ = some (.int .i64 k)
  c1 : W.cell? ⟨B, 1, none⟩ = some (.int .i64 n)
  c2 : W.cell? ⟨B, 2, none⟩ = some (.int .i64 d)
  c3 : W.cell? ⟨B, 3, none⟩ = some (.string s)
  f0 : W.frozen? ⟨B, 0, none⟩ = false
  f1 : W.frozen? ⟨B, 1, none⟩ = false
  f2 : W.frozen? ⟨B, 2, none⟩ = false
  f3 : W.frozen? ⟨B, 3, none⟩ = false
theorem BlkV.below {W W' : World} {B m : Nat} {k n d : Int} {s : ByteArray} (h : BlkV W B k n d s) (hb : Below m W W') (hB : B < m) : BlkV W' B k n d s :=
  ⟨(hb.cell (p := ⟨B, 0, none⟩) hB).trans h.c0, (hb.cell (p := ⟨B, 1, none⟩) hB).trans h.c1, (hb.cell (p := ⟨B, 2, none⟩) hB).trans h.c2, (hb.cell (p := ⟨B, 3, none⟩) hB).trans h.c3,
   (hb.frozen (p := ⟨B, 0, none⟩) hB).trans h.f0, (hb.frozen (p := ⟨B, 1, none⟩) hB).trans h.f1, (hb.frozen (p := ⟨B, 2, none⟩) hB).trans h.f2, (hb.frozen (p := ⟨B, 3, none⟩) hB).trans h.f3⟩
end Go.Proofs.YtiliaincniiijaaGreat

namespace Go.Proofs.YtiliaincniiijaaGreat
open Go.RowKit Go.Shelf

end Go.Proofs.YtiliaincniiijaaGreat

namespace Go.Proofs.YtiliaincniiijaaGreat
open Go.RowKit Go.Shelf

end Go.Proofs.YtiliaincniiijaaGreat

namespace Go.Proofs.YtiliaincniiijaaGreat
open Go.RowKit Go.Shelf

end Go.Proofs.YtiliaincniiijaaGreat

namespace Go.Proofs.YtiliaincniiijaaGreat
open Go.RowKit Go.Shelf

end Go.Proofs.YtiliaincniiijaaGreat

namespace Go.Proofs.YtiliaincniiijaaGreat
open Go.RowKit Go.Shelf

theorem cmp_same (a b : Int) (w : World) :
    Calls Tryz.prog 114 #[.agg #[.int .i64 a, .int .i64 b], .agg #[.int .i64 a, .int .i64 b]] w fun e w' => e = .returned (.int .i64 0) ∧ Below w.heap.size w w' := by
  go_enter Tryz.func114, Tryz.ntmps114
  go_wp2
  go_ret
  exact ⟨rfl, by go_grown⟩

set_option maxHeartbeats 1000000 in
theorem cmp_no1A (a b c d : Int) (w : World) (ha : -9223372036854775808 ≤ a) (ha' : a ≤ 9223372036854775807) (hb : -9223372036854775808 ≤ b) (hb' : b ≤ 9223372036854775807) (_hc : -9223372036854775808 ≤ c) (_hc' : c ≤ 9223372036854775807) (_hd : -9223372036854775808 ≤ d) (_hd' : d ≤ 9223372036854775807) (hne : (a == c) = false) (hm : mayB a b = false) :
    Calls Tryz.prog 114 #[.agg #[.int .i64 a, .int .i64 b], .agg #[.int .i64 c, .int .i64 d]] w fun e w' => e = .returned (.int .i64 0) ∧ Below w.heap.size w w' := by
  go_enter Tryz.func114, Tryz.ntmps114
  go_upto_region 1 with fail
  obtain ⟨W0, eW⟩ : ∃ W0 : World, Hid (W0 = ((w.alloc (Obj.cells #[.int .i64 a, .int .i64 b] 106)).alloc (Obj.cells #[.int .i64 c, .int .i64 d] 106))) := ⟨_, rfl⟩
  rw [← eW.out]
  have k0 : Below w.heap.size w W0 := by rw [eW.out]; go_grown
  have ca : W0.cell? ⟨w.heap.size, 0, none⟩ = some (.int .i64 a) := by rw [eW.out]; simp [go_sem]
  have cb : W0.cell? ⟨w.heap.size, 1, none⟩ = some (.int .i64 b) := by rw [eW.out]; simp [go_sem]
  have cc : W0.cell? ⟨w.heap.size + 1, 0, none⟩ = some (.int .i64 c) := by rw [eW.out]; simp [go_sem]
  have cd : W0.cell? ⟨w.heap.size + 1, 1, none⟩ = some (.int .i64 d) := by rw [eW.out]; simp [go_sem]
  have k1 : W0.heap.size = w.heap.size + 2 := by rw [eW.out]; simp
  clear eW
  go_wp2_with (first
    | (go_at_call 128; refine (may_any _ _ _ (by omega) (by omega) (by omega) (by omega)).mono ?_; rintro e w1 ⟨rfl, hb1⟩; obtain ⟨hB1, hn1⟩ := bg0 (n := w.heap.size + 2) (W0 := W0) (by go_grown) (by go_size) hb1; have za1 : w.heap.size < w1.heap.size := (by omega); have zb1 : w.heap.size + 1 < w1.heap.size := (by omega); have ca_1 := bcl hB1 ca (by simp; try omega); have cb_1 := bcl hB1 cb (by simp; try omega); have cc_1 := bcl hB1 cc (by simp; try omega); have cd_1 := bcl hB1 cd (by simp; try omega)))
  have hBF : Below w.heap.size w w1 := k0.trans (hB1.mono (by omega))
  go_ret
  exact ⟨rfl, by go_grown⟩

set_option maxHeartbeats 1000000 in
theorem cmp_no2A (a b c d : Int) (w : World) (ha : -9223372036854775808 ≤ a) (ha' : a ≤ 9223372036854775807) (hb : -9223372036854775808 ≤ b) (hb' : b ≤ 9223372036854775807) (hc : -9223372036854775808 ≤ c) (hc' : c ≤ 9223372036854775807) (hd : -9223372036854775808 ≤ d) (hd' : d ≤ 9223372036854775807) (hne : (a == c) = false) (hm0 : mayB a b = true) (hm : mayB c d = false) :
    Calls Tryz.prog 114 #[.agg #[.int .i64 a, .int .i64 b], .agg #[.int .i64 c, .int .i64 d]] w fun e w' => e = .returned (.int .i64 0) ∧ Below w.heap.size w w' := by
  go_enter Tryz.func114, Tryz.ntmps114
  go_upto_region 1 with fail
  obtain ⟨W0, eW⟩ : ∃ W0 : World, Hid (W0 = ((w.alloc (Obj.cells #[.int .i64 a, .int .i64 b] 106)).alloc (Obj.cells #[.int .i64 c, .int .i64 d] 106))) := ⟨_, rfl⟩
  rw [← eW.out]
  have k0 : Below w.heap.size w W0 := by rw [eW.out]; go_grown
  have ca : W0.cell? ⟨w.heap.size, 0, none⟩ = some (.int .i64 a) := by rw [eW.out]; simp [go_sem]
  have cb : W0.cell? ⟨w.heap.size, 1, none⟩ = some (.int .i64 b) := by rw [eW.out]; simp [go_sem]
  have cc : W0.cell? ⟨w.heap.size + 1, 0, none⟩ = some (.int .i64 c) := by rw [eW.out]; simp [go_sem]
  have cd : W0.cell? ⟨w.heap.size + 1, 1, none⟩ = some (.int .i64 d) := by rw [eW.out]; simp [go_sem]
  have k1 : W0.heap.size = w.heap.size + 2 := by rw [eW.out]; simp
  clear eW
  go_wp2_with (first
    | (go_at_call 128; refine (may_any _ _ _ (by omega) (by omega) (by omega) (by omega)).mono ?_; rintro e w1 ⟨rfl, hb1⟩; obtain ⟨hB1, hn1⟩ := bg0 (n := w.heap.size + 2) (W0 := W0) (by go_grown) (by go_size) hb1; have za1 : w.heap.size < w1.heap.size := (by omega); have zb1 : w.heap.size + 1 < w1.heap.size := (by omega); have ca_1 := bcl hB1 ca (by simp; try omega); have cb_1 := bcl hB1 cb (by simp; try omega); have cc_1 := bcl hB1 cc (by simp; try omega); have cd_1 := bcl hB1 cd (by simp; try omega)))
  have hBF : Below w.heap.size w w1 := k0.trans (hB1.mono (by omega))
  go_ret
  exact ⟨rfl, by go_grown⟩

set_option maxHeartbeats 2000000 in
theorem cmp_yesA (a b c d : Int) (w : World) (ha : -9223372036854775808 ≤ a) (ha' : a ≤ 9223372036854775807) (hb : -9223372036854775808 ≤ b) (hb' : b ≤ 9223372036854775807) (hc : -9223372036854775808 ≤ c) (hc' : c ≤ 9223372036854775807) (hd : -9223372036854775808 ≤ d) (hd' : d ≤ 9223372036854775807) (hne : (a == c) = false) (hm0 : mayB a b = true) (hm : mayB c d = true) (L : Bool) (hL : lessB (decide (a < 0)) (sz a) b (decide (c < 0)) (sz c) d = L) :
    Calls Tryz.prog 114 #[.agg #[.int .i64 a, .int .i64 b], .agg #[.int .i64 c, .int .i64 d]] w fun e w' => e = .returned (.int .i64 (if L then -1 else 1)) ∧ Below w.heap.size w w' := by
  obtain ⟨m1, m2⟩ := may_of hm0
  obtain ⟨m3, m4⟩ := may_of hm
  have e1 : sz b = b := sz_of_nonneg (by omega)
  have e2 : sz d = d := sz_of_nonneg (by omega)
  have s1 := sz_nonneg a
  have s2 := sz_nonneg c
  have s3 := sz_le ha ha'
  have s4 := sz_le hc hc'
  have n1 : Nat.Coprime (sz a).toNat b.toNat := by unfold sz; simpa using m2
  have n2 : Nat.Coprime (sz c).toNat d.toNat := by unfold sz; simpa using m4
  have E1 : Hid (sg (decide (a < 0)) (sz a) = a) := by have := sg_sz a false; simpa [sg, Hid] using this
  have E2 : Hid (sg (decide (c < 0)) (sz c) = c) := by have := sg_sz c false; simpa [sg, Hid] using this
  have N1 : Hid (Nat.Coprime (sz a).toNat b.toNat) := n1
  have N2 : Hid (Nat.Coprime (sz c).toNat d.toNat) := n2
  clear n1 n2 m2 m4
  go_enter Tryz.func114, Tryz.ntmps114
  go_upto_region 1 with fail
  obtain ⟨W0, eW⟩ : ∃ W0 : World, Hid (W0 = ((w.alloc (Obj.cells #[.int .i64 a, .int .i64 b] 106)).alloc (Obj.cells #[.int .i64 c, .int .i64 d] 106))) := ⟨_, rfl⟩
  rw [← eW.out]
  have k0 : Below w.heap.size w W0 := by rw [eW.out]; go_grown
  have ca : W0.cell? ⟨w.heap.size, 0, none⟩ = some (.int .i64 a) := by rw [eW.out]; simp [go_sem]
  have cb : W0.cell? ⟨w.heap.size, 1, none⟩ = some (.int .i64 b) := by rw [eW.out]; simp [go_sem]
  have cc : W0.cell? ⟨w.heap.size + 1, 0, none⟩ = some (.int .i64 c) := by rw [eW.out]; simp [go_sem]
  have cd : W0.cell? ⟨w.heap.size + 1, 1, none⟩ = some (.int .i64 d) := by rw [eW.out]; simp [go_sem]
  have k1 : W0.heap.size = w.heap.size + 2 := by rw [eW.out]; simp
  clear eW
  go_upto_region 3 with (first
    | (go_at_call 128; refine (may_any _ _ _ (by omega) (by omega) (by omega) (by omega)).mono ?_; rintro e w1 ⟨rfl, hb1⟩; obtain ⟨hB1, hn1⟩ := bg0 (n := w.heap.size + 2) (W0 := W0) (by go_grown) (by go_size) hb1; have za1 : w.heap.size < w1.heap.size := (by omega); have zb1 : w.heap.size + 1 < w1.heap.size := (by omega); have ca_1 := bcl hB1 ca (by simp; try omega); have cb_1 := bcl hB1 cb (by simp; try omega); have cc_1 := bcl hB1 cc (by simp; try omega); have cd_1 := bcl hB1 cd (by simp; try omega)))
  go_region_held3 (fun w' => w'.cell? ⟨w.heap.size, 0, none⟩ = some (.int .i64 a) ∧ w'.cell? ⟨w.heap.size, 1, none⟩ = some (.int .i64 b) ∧ w'.cell? ⟨w.heap.size + 1, 0, none⟩ = some (.int .i64 c) ∧ w'.cell? ⟨w.heap.size + 1, 1, none⟩ = some (.int .i64 d)) (exact ⟨bcl (n := w.heap.size + 2) (by go_grown) ca (by simp; try omega), bcl (n := w.heap.size + 2) (by go_grown) cb (by simp; try omega), bcl (n := w.heap.size + 2) (by go_grown) cc (by simp; try omega), bcl (n := w.heap.size + 2) (by go_grown) cd (by simp; try omega)⟩)
    (first
      | (go_at_call_of 130 a; refine (split_any _ _ _ (by omega) (by omega) (by omega) (by omega)).mono ?_; rintro e w2 ⟨rfl, hb2⟩; obtain ⟨hB2, hn2⟩ := bg0 (n := w.heap.size + 2) (W0 := W0) (by go_grown) (by go_size) hb2; have za2 : w.heap.size < w2.heap.size := (by omega); have zb2 : w.heap.size + 1 < w2.heap.size := (by omega); have ca_2 := bcl hB2 ca (by simp; try omega); have cb_2 := bcl hB2 cb (by simp; try omega); have cc_2 := bcl hB2 cc (by simp; try omega); have cd_2 := bcl hB2 cd (by simp; try omega))
      | (go_at_call_of 130 c; refine (split_any _ _ _ (by omega) (by omega) (by omega) (by omega)).mono ?_; rintro e w3 ⟨rfl, hb3⟩; obtain ⟨hB3, hn3⟩ := bg0 (n := w.heap.size + 2) (W0 := W0) (by go_grown) (by go_size) hb3; have za3 : w.heap.size < w3.heap.size := (by omega); have zb3 : w.heap.size + 1 < w3.heap.size := (by omega); have ca_3 := bcl hB3 ca (by simp; try omega); have cb_3 := bcl hB3 cb (by simp; try omega); have cc_3 := bcl hB3 cc (by simp; try omega); have cd_3 := bcl hB3 cd (by simp; try omega))
      | (go_at_call 129; refine (less_any (decide (a < 0)) (decide (c < 0)) (sz a) b (sz c) d _ s1 (by omega) s2 (by omega) (by omega) (by omega) (by omega) (by omega)).mono ?_; rintro e w4 ⟨rfl, hb4⟩; obtain ⟨hB4, hn4⟩ := bg0 (n := w.heap.size + 2) (W0 := W0) (by go_grown) (by go_size) hb4; have za4 : w.heap.size < w4.heap.size := (by omega); have zb4 : w.heap.size + 1 < w4.heap.size := (by omega); have ca_4 := bcl hB4 ca (by simp; try omega); have cb_4 := bcl hB4 cb (by simp; try omega); have cc_4 := bcl hB4 cc (by simp; try omega); have cd_4 := bcl hB4 cd (by simp; try omega)))
  have hBF : Below w.heap.size w w4 := k0.trans (hB4.mono (by omega))
  cases L
  · go_wp2
    go_ret
    exact ⟨rfl, by go_grown⟩
  · go_wp2
    go_ret
    exact ⟨rfl, by go_grown⟩

set_option maxHeartbeats 1000000 in
theorem cmp_no1B (a b c d : Int) (w : World) (ha : -9223372036854775808 ≤ a) (ha' : a ≤ 9223372036854775807) (hb : -9223372036854775808 ≤ b) (hb' : b ≤ 9223372036854775807) (_hc : -9223372036854775808 ≤ c) (_hc' : c ≤ 9223372036854775807) (_hd : -9223372036854775808 ≤ d) (_hd' : d ≤ 9223372036854775807) (hac : (a == c) = true) (hne : (b == d) = false) (hm : mayB a b = false) :
    Calls Tryz.prog 114 #[.agg #[.int .i64 a, .int .i64 b], .agg #[.int .i64 c, .int .i64 d]] w fun e w' => e = .returned (.int .i64 0) ∧ Below w.heap.size w w' := by
  go_enter Tryz.func114, Tryz.ntmps114
  go_upto_region 1 with fail
  obtain ⟨W0, eW⟩ : ∃ W0 : World, Hid (W0 = ((w.alloc (Obj.cells #[.int .i64 a, .int .i64 b] 106)).alloc (Obj.cells #[.int .i64 c, .int .i64 d] 106))) := ⟨_, rfl⟩
  rw [← eW.out]
  have k0 : Below w.heap.size w W0 := by rw [eW.out]; go_grown
  have ca : W0.cell? ⟨w.heap.size, 0, none⟩ = some (.int .i64 a) := by rw [eW.out]; simp [go_sem]
  have cb : W0.cell? ⟨w.heap.size, 1, none⟩ = some (.int .i64 b) := by rw [eW.out]; simp [go_sem]
  have cc : W0.cell? ⟨w.heap.size + 1, 0, none⟩ = some (.int .i64 c) := by rw [eW.out]; simp [go_sem]
  have cd : W0.cell? ⟨w.heap.size + 1, 1, none⟩ = some (.int .i64 d) := by rw [eW.out]; simp [go_sem]
  have k1 : W0.heap.size = w.heap.size + 2 := by rw [eW.out]; simp
  clear eW
  go_wp2_with (first
    | (go_at_call 128; refine (may_any _ _ _ (by omega) (by omega) (by omega) (by omega)).mono ?_; rintro e w1 ⟨rfl, hb1⟩; obtain ⟨hB1, hn1⟩ := bg0 (n := w.heap.size + 2) (W0 := W0) (by go_grown) (by go_size) hb1; have za1 : w.heap.size < w1.heap.size := (by omega); have zb1 : w.heap.size + 1 < w1.heap.size := (by omega); have ca_1 := bcl hB1 ca (by simp; try omega); have cb_1 := bcl hB1 cb (by simp; try omega); have cc_1 := bcl hB1 cc (by simp; try omega); have cd_1 := bcl hB1 cd (by simp; try omega)))
  have hBF : Below w.heap.size w w1 := k0.trans (hB1.mono (by omega))
  go_ret
  exact ⟨rfl, by go_grown⟩

set_option maxHeartbeats 1000000 in
theorem cmp_no2B (a b c d : Int) (w : World) (ha : -9223372036854775808 ≤ a) (ha' : a ≤ 9223372036854775807) (hb : -9223372036854775808 ≤ b) (hb' : b ≤ 9223372036854775807) (hc : -9223372036854775808 ≤ c) (hc' : c ≤ 9223372036854775807) (hd : -9223372036854775808 ≤ d) (hd' : d ≤ 9223372036854775807) (hac : (a == c) = true) (hne : (b == d) = false) (hm0 : mayB a b = true) (hm : mayB c d = false) :
    Calls Tryz.prog 114 #[.agg #[.int .i64 a, .int .i64 b], .agg #[.int .i64 c, .int .i64 d]] w fun e w' => e = .returned (.int .i64 0) ∧ Below w.heap.size w w' := by
  go_enter Tryz.func114, Tryz.ntmps114
  go_upto_region 1 with fail
  obtain ⟨W0, eW⟩ : ∃ W0 : World, Hid (W0 = ((w.alloc (Obj.cells #[.int .i64 a, .int .i64 b] 106)).alloc (Obj.cells #[.int .i64 c, .int .i64 d] 106))) := ⟨_, rfl⟩
  rw [← eW.out]
  have k0 : Below w.heap.size w W0 := by rw [eW.out]; go_grown
  have ca : W0.cell? ⟨w.heap.size, 0, none⟩ = some (.int .i64 a) := by rw [eW.out]; simp [go_sem]
  have cb : W0.cell? ⟨w.heap.size, 1, none⟩ = some (.int .i64 b) := by rw [eW.out]; simp [go_sem]
  have cc : W0.cell? ⟨w.heap.size + 1, 0, none⟩ = some (.int .i64 c) := by rw [eW.out]; simp [go_sem]
  have cd : W0.cell? ⟨w.heap.size + 1, 1, none⟩ = some (.int .i64 d) := by rw [eW.out]; simp [go_sem]
  have k1 : W0.heap.size = w.heap.size + 2 := by rw [eW.out]; simp
  clear eW
  go_wp2_with (first
    | (go_at_call 128; refine (may_any _ _ _ (by omega) (by omega) (by omega) (by omega)).mono ?_; rintro e w1 ⟨rfl, hb1⟩; obtain ⟨hB1, hn1⟩ := bg0 (n := w.heap.size + 2) (W0 := W0) (by go_grown) (by go_size) hb1; have za1 : w.heap.size < w1.heap.size := (by omega); have zb1 : w.heap.size + 1 < w1.heap.size := (by omega); have ca_1 := bcl hB1 ca (by simp; try omega); have cb_1 := bcl hB1 cb (by simp; try omega); have cc_1 := bcl hB1 cc (by simp; try omega); have cd_1 := bcl hB1 cd (by simp; try omega)))
  have hBF : Below w.heap.size w w1 := k0.trans (hB1.mono (by omega))
  go_ret
  exact ⟨rfl, by go_grown⟩

set_option maxHeartbeats 2000000 in
theorem cmp_yesB (a b c d : Int) (w : World) (ha : -9223372036854775808 ≤ a) (ha' : a ≤ 9223372036854775807) (hb : -9223372036854775808 ≤ b) (hb' : b ≤ 9223372036854775807) (hc : -9223372036854775808 ≤ c) (hc' : c ≤ 9223372036854775807) (hd : -9223372036854775808 ≤ d) (hd' : d ≤ 9223372036854775807) (hac : (a == c) = true) (hne : (b == d) = false) (hm0 : mayB a b = true) (hm : mayB c d = true) (L : Bool) (hL : lessB (decide (a < 0)) (sz a) b (decide (c < 0)) (sz c) d = L) :
    Calls Tryz.prog 114 #[.agg #[.int .i64 a, .int .i64 b], .agg #[.int .i64 c, .int .i64 d]] w fun e w' => e = .returned (.int .i64 (if L then -1 else 1)) ∧ Below w.heap.size w w' := by
  obtain ⟨m1, m2⟩ := may_of hm0
  obtain ⟨m3, m4⟩ := may_of hm
  have e1 : sz b = b := sz_of_nonneg (by omega)
  have e2 : sz d = d := sz_of_nonneg (by omega)
  have s1 := sz_nonneg a
  have s2 := sz_nonneg c
  have s3 := sz_le ha ha'
  have s4 := sz_le hc hc'
  have n1 : Nat.Coprime (sz a).toNat b.toNat := by unfold sz; simpa using m2
  have n2 : Nat.Coprime (sz c).toNat d.toNat := by unfold sz; simpa using m4
  have E1 : Hid (sg (decide (a < 0)) (sz a) = a) := by have := sg_sz a false; simpa [sg, Hid] using this
  have E2 : Hid (sg (decide (c < 0)) (sz c) = c) := by have := sg_sz c false; simpa [sg, Hid] using this
  have N1 : Hid (Nat.Coprime (sz a).toNat b.toNat) := n1
  have N2 : Hid (Nat.Coprime (sz c).toNat d.toNat) := n2
  clear n1 n2 m2 m4
  go_enter Tryz.func114, Tryz.ntmps114
  go_upto_region 1 with fail
  obtain ⟨W0, eW⟩ : ∃ W0 : World, Hid (W0 = ((w.alloc (Obj.cells #[.int .i64 a, .int .i64 b] 106)).alloc (Obj.cells #[.int .i64 c, .int .i64 d] 106))) := ⟨_, rfl⟩
  rw [← eW.out]
  have k0 : Below w.heap.size w W0 := by rw [eW.out]; go_grown
  have ca : W0.cell? ⟨w.heap.size, 0, none⟩ = some (.int .i64 a) := by rw [eW.out]; simp [go_sem]
  have cb : W0.cell? ⟨w.heap.size, 1, none⟩ = some (.int .i64 b) := by rw [eW.out]; simp [go_sem]
  have cc : W0.cell? ⟨w.heap.size + 1, 0, none⟩ = some (.int .i64 c) := by rw [eW.out]; simp [go_sem]
  have cd : W0.cell? ⟨w.heap.size + 1, 1, none⟩ = some (.int .i64 d) := by rw [eW.out]; simp [go_sem]
  have k1 : W0.heap.size = w.heap.size + 2 := by rw [eW.out]; simp
  clear eW
  go_upto_region 3 with (first
    | (go_at_call 128; refine (may_any _ _ _ (by omega) (by omega) (by omega) (by omega)).mono ?_; rintro e w1 ⟨rfl, hb1⟩; obtain ⟨hB1, hn1⟩ := bg0 (n := w.heap.size + 2) (W0 := W0) (by go_grown) (by go_size) hb1; have za1 : w.heap.size < w1.heap.size := (by omega); have zb1 : w.heap.size + 1 < w1.heap.size := (by omega); have ca_1 := bcl hB1 ca (by simp; try omega); have cb_1 := bcl hB1 cb (by simp; try omega); have cc_1 := bcl hB1 cc (by simp; try omega); have cd_1 := bcl hB1 cd (by simp; try omega)))
  go_region_held3 (fun w' => w'.cell? ⟨w.heap.size, 0, none⟩ = some (.int .i64 a) ∧ w'.cell? ⟨w.heap.size, 1, none⟩ = some (.int .i64 b) ∧ w'.cell? ⟨w.heap.size + 1, 0, none⟩ = some (.int .i64 c) ∧ w'.cell? ⟨w.heap.size + 1, 1, none⟩ = some (.int .i64 d)) (exact ⟨bcl (n := w.heap.size + 2) (by go_grown) ca (by simp; try omega), bcl (n := w.heap.size + 2) (by go_grown) cb (by simp; try omega), bcl (n := w.heap.size + 2) (by go_grown) cc (by simp; try omega), bcl (n := w.heap.size + 2) (by go_grown) cd (by simp; try omega)⟩)
    (first
      | (go_at_call_of 130 a; refine (split_any _ _ _ (by omega) (by omega) (by omega) (by omega)).mono ?_; rintro e w2 ⟨rfl, hb2⟩; obtain ⟨hB2, hn2⟩ := bg0 (n := w.heap.size + 2) (W0 := W0) (by go_grown) (by go_size) hb2; have za2 : w.heap.size < w2.heap.size := (by omega); have zb2 : w.heap.size + 1 < w2.heap.size := (by omega); have ca_2 := bcl hB2 ca (by simp; try omega); have cb_2 := bcl hB2 cb (by simp; try omega); have cc_2 := bcl hB2 cc (by simp; try omega); have cd_2 := bcl hB2 cd (by simp; try omega))
      | (go_at_call_of 130 c; refine (split_any _ _ _ (by omega) (by omega) (by omega) (by omega)).mono ?_; rintro e w3 ⟨rfl, hb3⟩; obtain ⟨hB3, hn3⟩ := bg0 (n := w.heap.size + 2) (W0 := W0) (by go_grown) (by go_size) hb3; have za3 : w.heap.size < w3.heap.size := (by omega); have zb3 : w.heap.size + 1 < w3.heap.size := (by omega); have ca_3 := bcl hB3 ca (by simp; try omega); have cb_3 := bcl hB3 cb (by simp; try omega); have cc_3 := bcl hB3 cc (by simp; try omega); have cd_3 := bcl hB3 cd (by simp; try omega))
      | (go_at_call 129; refine (less_any (decide (a < 0)) (decide (c < 0)) (sz a) b (sz c) d _ s1 (by omega) s2 (by omega) (by omega) (by omega) (by omega) (by omega)).mono ?_; rintro e w4 ⟨rfl, hb4⟩; obtain ⟨hB4, hn4⟩ := bg0 (n := w.heap.size + 2) (W0 := W0) (by go_grown) (by go_size) hb4; have za4 : w.heap.size < w4.heap.size := (by omega); have zb4 : w.heap.size + 1 < w4.heap.size := (by omega); have ca_4 := bcl hB4 ca (by simp; try omega); have cb_4 := bcl hB4 cb (by simp; try omega); have cc_4 := bcl hB4 cc (by simp; try omega); have cd_4 := bcl hB4 cd (by simp; try omega)))
  have hBF : Below w.heap.size w w4 := k0.trans (hB4.mono (by omega))
  cases L
  · go_wp2
    go_ret
    exact ⟨rfl, by go_grown⟩
  · go_wp2
    go_ret
    exact ⟨rfl, by go_grown⟩

end Go.Proofs.YtiliaincniiijaaGreat

namespace Go.Proofs.YtiliaincniiijaaGreat
open Go.RowKit Go.Shelf

/-- What a call tells: N, D, the error: if both fractions may be that of p / q, else nothing and ErrArg. -/
def both (a b c d : Int) : Bool := mayB a b && mayB c d
theorem less_val (a b c d : Int) (hb : 0 < b) (hd : 0 < d) : lessB (decide (a < 0)) (sz a) b (decide (c < 0)) (sz c) d = decide (a * d < c * b) := by
  unfold lessB
  by_cases h1 : a < 0 <;> by_cases h2 : c < 0
  · rw [sz_of_neg h1, sz_of_neg h2]
    simp [h1, h2, Int.neg_mul]
  · have e1 : a * d < 0 := Int.mul_neg_of_neg_of_pos h1 hd
    have e2 : 0 ≤ c * b := Int.mul_nonneg (by omega) (by omega)
    simp [h1, h2]; omega
  · have e1 : 0 ≤ a * d := Int.mul_nonneg (by omega) (by omega)
    have e2 : c * b < 0 := Int.mul_neg_of_neg_of_pos h2 hb
    simp [h1, h2]; omega
  · rw [sz_of_nonneg (by omega), sz_of_nonneg (by omega)]
    simp [h1, h2]

/-- Two fractions that may be are of one worth only if they are the same. -/
theorem may_unique {a b c d : Int} (h1 : mayB a b = true) (h2 : mayB c d = true) (h : a * d = c * b) : a = c ∧ b = d := by
  obtain ⟨p1, c1⟩ := may_of h1
  obtain ⟨p2, c2⟩ := may_of h2
  have hn : a.natAbs * d.toNat = c.natAbs * b.toNat := by
    have := congrArg Int.natAbs h
    rw [Int.natAbs_mul, Int.natAbs_mul] at this
    rwa [show d.natAbs = d.toNat by omega, show b.natAbs = b.toNat by omega] at this
  have d1 : b.toNat ∣ d.toNat := Nat.Coprime.dvd_of_dvd_mul_left c1.symm ⟨c.natAbs, by rw [hn, Nat.mul_comm]⟩
  have d2 : d.toNat ∣ b.toNat := Nat.Coprime.dvd_of_dvd_mul_left c2.symm ⟨a.natAbs, by rw [← hn, Nat.mul_comm]⟩
  have e := Nat.dvd_antisymm d1 d2
  have e' : b = d := by omega
  subst e'
  exact ⟨Int.eq_of_mul_eq_mul_right (by omega) h, rfl⟩

/-- How two fractions stand to one another. -/
def cmpV (a b c d : Int) : Int := if both a b c d then (if a * d < c * b then -1 else if c * b < a * d then 1 else 0) else 0

theorem cmp_all (a b c d : Int) (w : World) (ha : -9223372036854775808 ≤ a) (ha' : a ≤ 9223372036854775807) (hb : -9223372036854775808 ≤ b) (hb' : b ≤ 9223372036854775807) (hc : -9223372036854775808 ≤ c) (hc' : c ≤ 9223372036854775807) (hd : -9223372036854775808 ≤ d) (hd' : d ≤ 9223372036854775807) :
    Calls Tryz.prog 114 #[.agg #[.int .i64 a, .int .i64 b], .agg #[.int .i64 c, .int .i64 d]] w fun e w' => e = .returned (.int .i64 (cmpV a b c d)) ∧ Below w.heap.size w w' := by
  by_cases hs : a = c ∧ b = d
  · obtain ⟨rfl, rfl⟩ := hs
    have e : cmpV a b a b = 0 := by unfold cmpV; simp
    rw [e]; exact cmp_same a b w
  · cases h1 : mayB a b
    · have e : cmpV a b c d = 0 := by simp [cmpV, both, h1]
      rw [e]
      by_cases hac : a = c
      · exact cmp_no1B a b c d w ha ha' hb hb' hc hc' hd hd' (by simpa using hac) (by simp; exact fun h => hs ⟨hac, h⟩) h1
      · exact cmp_no1A a b c d w ha ha' hb hb' hc hc' hd hd' (by simpa using hac) h1
    · cases h2 : mayB c d
      · have e : cmpV a b c d = 0 := by simp [cmpV, both, h2]
        rw [e]
        by_cases hac : a = c
        · exact cmp_no2B a b c d w ha ha' hb hb' hc hc' hd hd' (by simpa using hac) (by simp; exact fun h => hs ⟨hac, h⟩) h1 h2
        · exact cmp_no2A a b c d w ha ha' hb hb' hc hc' hd hd' (by simpa using hac) h1 h2
      · have hu : a * d ≠ c * b := fun h => hs (may_unique h1 h2 h)
        obtain ⟨p1, _⟩ := may_of h1
        obtain ⟨p2, _⟩ := may_of h2
        have hl := less_val a b c d p1 p2
        have e : cmpV a b c d = if decide (a * d < c * b) then -1 else 1 := by
          simp only [cmpV, both, h1, h2, Bool.and_true, if_true, decide_eq_true_eq]
          split
          · rfl
          · rw [if_pos (by omega)]
        rw [e]
        by_cases hac : a = c
        · exact cmp_yesB a b c d w ha ha' hb hb' hc hc' hd hd' (by simpa using hac) (by simp; exact fun h => hs ⟨hac, h⟩) h1 h2 _ hl
        · exact cmp_yesA a b c d w ha ha' hb hb' hc hc' hd hd' (by simpa using hac) h1 h2 _ hl

end Go.Proofs.YtiliaincniiijaaGreat

namespace Go.Proofs.YtiliaincniiijaaGreat
open Go.RowKit Go.Shelf

/-- A block that holds a fraction, which may be written. -/
structure BlkR (W : World) (B : Nat) (n d : Int) : Prop where
  c0 : W.cell? ⟨B, 0, none⟩ = some (.int .i64 n)
  c1 : W.cell? ⟨B, 1, none⟩ = some (.int .i64 d)
theorem BlkR.below {W W' : World} {B m : Nat} {n d : Int} (h : BlkR W B n d) (hb : Below m W W') (hB : B < m) : BlkR W' B n d :=
  ⟨(hb.cell (p := ⟨B, 0, none⟩) hB).trans h.c0, (hb.cell (p := ⟨B, 1, none⟩) hB).trans h.c1⟩

end Go.Proofs.YtiliaincniiijaaGreat

namespace Go.Proofs.YtiliaincniiijaaGreat
open Go.RowKit Go.Shelf

end Go.Proofs.YtiliaincniiijaaGreat

namespace Go.Proofs.YtiliaincniiijaaGreat
open Go.RowKit Go.Shelf

theorem keep8 {W W' : World} {P Q : Nat} {k n d k' n' d' : Int} {s s' : ByteArray} (hb : Below W.heap.size W W') (a0 : W.cell? ⟨P, 0, none⟩ = some (.int .i64 k)) (a1 : W.cell? ⟨P, 1, none⟩ = some (.int .i64 n)) (a2 : W.cell? ⟨P, 2, none⟩ = some (.int .i64 d)) (a3 : W.cell? ⟨P, 3, none⟩ = some (.string s)) (b0 : W.cell? ⟨Q, 0, none⟩ = some (.int .i64 k')) (b1 : W.cell? ⟨Q, 1, none⟩ = some (.int .i64 n')) (b2 : W.cell? ⟨Q, 2, none⟩ = some (.int .i64 d')) (b3 : W.cell? ⟨Q, 3, none⟩ = some (.string s')) (hP : P < W.heap.size) (hQ : Q < W.heap.size) :
    W'.cell? ⟨P, 0, none⟩ = some (.int .i64 k) ∧ W'.cell? ⟨P, 1, none⟩ = some (.int .i64 n) ∧ W'.cell? ⟨P, 2, none⟩ = some (.int .i64 d) ∧ W'.cell? ⟨P, 3, none⟩ = some (.string s) ∧ W'.cell? ⟨Q, 0, none⟩ = some (.int .i64 k') ∧ W'.cell? ⟨Q, 1, none⟩ = some (.int .i64 n') ∧ W'.cell? ⟨Q, 2, none⟩ = some (.int .i64 d') ∧ W'.cell? ⟨Q, 3, none⟩ = some (.string s') :=
  ⟨bcl hb a0 hP, bcl hb a1 hP, bcl hb a2 hP, bcl hb a3 hP, bcl hb b0 hQ, bcl hb b1 hQ, bcl hb b2 hQ, bcl hb b3 hQ⟩

end Go.Proofs.YtiliaincniiijaaGreat

namespace Go.Proofs.YtiliaincniiijaaGreat
open Go.RowKit Go.Shelf

set_option maxRecDepth 100000 in
set_option maxHeartbeats 2000000 in
theorem cmp_unlike (k n d : Int) (s : ByteArray) (k' n' d' : Int) (s' : ByteArray) (w : World) (h1 : -9223372036854775808 ≤ n) (h2 : n ≤ 9223372036854775807) (g1 : -9223372036854775808 ≤ d) (g2 : d ≤ 9223372036854775807) (h1' : -9223372036854775808 ≤ n') (h2' : n' ≤ 9223372036854775807) (g1' : -9223372036854775808 ≤ d') (g2' : d' ≤ 9223372036854775807) (c1 : chk k n d s = 0) (c2 : chk k' n' d' s' = 0) (hk : (k != k') = true) :
    Calls Tryz.prog 37 #[.agg #[.int .i64 k, .int .i64 n, .int .i64 d, .string s], .agg #[.int .i64 k', .int .i64 n', .int .i64 d', .string s']] w fun e w' => e = .returned (.int .i64 (Lib.compareInt k k')) ∧ Below w.heap.size w w' := by
  go_enter Tryz.func37, Tryz.ntmps37
  go_upto_region 1 with fail
  refine wp_world ?_
  intro W0 hW0
  have A0 : Hid (BlkV W0 w.heap.size k n d s) := by rw [hW0]; constructor <;> simp (maxDischargeDepth := 12) [go_sem]
  have B0 : Hid (BlkV W0 (w.heap.size + 1) k' n' d' s') := by rw [hW0]; constructor <;> simp (maxDischargeDepth := 12) [go_sem]
  have z0 : w.heap.size + 1 < W0.heap.size := by rw [hW0]; simp
  have K0 : Below w.heap.size w W0 := by rw [hW0]; go_grown
  clear hW0
  obtain ⟨a0, a1, a2, a3, -, -, -, -⟩ := A0.out
  go_wp2_with fail
  refine (check_any k n d s _ h1 h2 g1 g2).mono ?_
  rintro e w1 ⟨rfl, hb1⟩
  rw [c1]
  clear a0 a1 a2 a3
  have A1 : Hid (BlkV w1 w.heap.size k n d s) := A0.out.below hb1 (by omega)
  have B1 : Hid (BlkV w1 (w.heap.size + 1) k' n' d' s') := B0.out.below hb1 z0
  have z1 : w.heap.size + 1 < w1.heap.size := by have := hb1.size; omega
  have K1 : Below w.heap.size w w1 := K0.trans (hb1.mono K0.size)
  clear A0 B0 z0 K0 hb1
  obtain ⟨a0, a1, a2, a3, -, -, -, -⟩ := B1.out
  go_wp2_with fail
  refine (check_any k' n' d' s' _ h1' h2' g1' g2').mono ?_
  rintro e w2 ⟨rfl, hb2⟩
  rw [c2]
  clear a0 a1 a2 a3
  have A2 : Hid (BlkV w2 w.heap.size k n d s) := A1.out.below hb2 (by omega)
  have B2 : Hid (BlkV w2 (w.heap.size + 1) k' n' d' s') := B1.out.below hb2 z1
  have K2 : Below w.heap.size w w2 := K1.trans (hb2.mono K1.size)
  clear A1 B1 z1 K1 hb2
  obtain ⟨a0, a1, a2, a3, -, -, -, -⟩ := A2.out
  obtain ⟨b0, b1, b2, b3, -, -, -, -⟩ := B2.out
  go_wp2_with fail
  refine (Tryz.cmp_Compare_int k k' _).mono ?_
  rintro e w3 ⟨rfl, rfl⟩
  go_wp2
  go_ret
  exact ⟨rfl, K2⟩

end Go.Proofs.YtiliaincniiijaaGreat

namespace Go.Proofs.YtiliaincniiijaaGreat
open Go.RowKit Go.Shelf

end Go.Proofs.YtiliaincniiijaaGreat

namespace Go.Proofs.YtiliaincniiijaaGreat
open Go.RowKit Go.Shelf

end Go.Proofs.YtiliaincniiijaaGreat

namespace Go.Proofs.YtiliaincniiijaaGreat
open Go.RowKit

/-- A block of four digits, which may be written. -/
structure Blk (W : World) (B : Nat) (v0 v1 v2 v3 : Int) : Prop where
  c0 : W.cell? ⟨B, 0, none⟩ = some (.int .u64 v0)
  c1 : W.cell? ⟨B, 1, none⟩ = some (.int .u64 v1)
  c2 : W.cell? ⟨B, 2, none⟩ = some (.int .u64 v2)
  c3 : W.cell? ⟨B, 3, none⟩ = some (.int .u64 v3)
  f0 : W.frozen? ⟨B, 0, none⟩ = false
  f1 : W.frozen? ⟨B, 1, none⟩ = false
  f2 : W.frozen? ⟨B, 2, none⟩ = false
  f3 : W.frozen? ⟨B, 3, none⟩ = false

theorem Blk.below {W W' : World} {B n : Nat} {v0 v1 v2 v3 : Int} (h : Blk W B v0 v1 v2 v3) (hb : Below n W W') (hB : B < n) : Blk W' B v0 v1 v2 v3 :=
  ⟨(hb.cell (p := ⟨B, 0, none⟩) hB).trans h.c0, (hb.cell (p := ⟨B, 1, none⟩) hB).trans h.c1, (hb.cell (p := ⟨B, 2, none⟩) hB).trans h.c2, (hb.cell (p := ⟨B, 3, none⟩) hB).trans h.c3,
   (hb.frozen (p := ⟨B, 0, none⟩) hB).trans h.f0, (hb.frozen (p := ⟨B, 1, none⟩) hB).trans h.f1, (hb.frozen (p := ⟨B, 2, none⟩) hB).trans h.f2, (hb.frozen (p := ⟨B, 3, none⟩) hB).trans h.f3⟩

theorem Blk.drew {W : World} {B : Nat} {v0 v1 v2 v3 : Int} (h : Blk W B v0 v1 v2 v3) : Blk W.drew B v0 v1 v2 v3 :=
  ⟨h.c0, h.c1, h.c2, h.c3, h.f0, h.f1, h.f2, h.f3⟩
theorem Blk.drewN {W : World} {B : Nat} {v0 v1 v2 v3 : Int} (h : Blk W B v0 v1 v2 v3) (n : Nat) : Blk (W.drewN n) B v0 v1 v2 v3 :=
  ⟨h.c0, h.c1, h.c2, h.c3, h.f0, h.f1, h.f2, h.f3⟩

end Go.Proofs.YtiliaincniiijaaGreat

namespace Go.Proofs.YtiliaincniiijaaGreat
open Go.RowKit

theorem Blk.fresh {W : World} {T : TypeId} {x0 x1 x2 x3 : Int} : Blk (W.alloc (.cells #[.int .u64 x0, .int .u64 x1, .int .u64 x2, .int .u64 x3] T)) W.heap.size x0 x1 x2 x3 := by
  constructor <;> simp (maxDischargeDepth := 12) [go_sem]
theorem Blk.alloc {W : World} {B : Nat} {O : Obj} {x0 x1 x2 x3 : Int} (h : Blk W B x0 x1 x2 x3) (hB : B < W.heap.size) : Blk (W.alloc O) B x0 x1 x2 x3 :=
  h.below (n := W.heap.size) ⟨rfl, rfl, rfl, by simp, fun k hk => Below.heap_alloc _ _ _ (by omega)⟩ hB

end Go.Proofs.YtiliaincniiijaaGreat

namespace Go.Proofs.YtiliaincniiijaaGreat
open Go.RowKit

/-- A block of two numbers, which may be written. -/
structure Blk2 (W : World) (B : Nat) (v0 v1 : Int) : Prop where
  c0 : W.cell? ⟨B, 0, none⟩ = some (.int .i64 v0)
  c1 : W.cell? ⟨B, 1, none⟩ = some (.int .i64 v1)
  f0 : W.frozen? ⟨B, 0, none⟩ = false
  f1 : W.frozen? ⟨B, 1, none⟩ = false
theorem Blk2.below {W W' : World} {B n : Nat} {v0 v1 : Int} (h : Blk2 W B v0 v1) (hb : Below n W W') (hB : B < n) : Blk2 W' B v0 v1 :=
  ⟨(hb.cell (p := ⟨B, 0, none⟩) hB).trans h.c0, (hb.cell (p := ⟨B, 1, none⟩) hB).trans h.c1, (hb.frozen (p := ⟨B, 0, none⟩) hB).trans h.f0, (hb.frozen (p := ⟨B, 1, none⟩) hB).trans h.f1⟩
end Go.Proofs.YtiliaincniiijaaGreat

namespace Go.Proofs.YtiliaincniiijaaGreat
open Go.RowKit

end Go.Proofs.YtiliaincniiijaaGreat

namespace Go.Proofs.YtiliaincniiijaaGreat
open Go.RowKit

end Go.Proofs.YtiliaincniiijaaGreat

namespace Go.Proofs.YtiliaincniiijaaGreat
open Go.RowKit Go.Shelf

end Go.Proofs.YtiliaincniiijaaGreat

namespace Go.Proofs.YtiliaincniiijaaGreat
open Go.RowKit Go.Shelf

/-- Are two values the same? -/
def sameB (k n d : Int) (s : ByteArray) (k' n' d' : Int) (s' : ByteArray) : Bool := k == k' && (n == n' && (d == d' && s.toList == s'.toList))

set_option maxRecDepth 100000 in
set_option maxHeartbeats 1000000 in
theorem rsame_any (k n d : Int) (s : ByteArray) (k' n' d' : Int) (s' : ByteArray) (w : World) :
    Calls Tryz.prog 35 #[.agg #[.int .i64 k, .int .i64 n, .int .i64 d, .string s], .agg #[.int .i64 k', .int .i64 n', .int .i64 d', .string s']] w fun e w' => e = .returned (.bool (sameB k n d s k' n' d' s')) ∧ Below w.heap.size w w' := by
  by_cases hk : k = k'
  · subst hk
    by_cases hn : n = n'
    · subst hn
      by_cases hd : d = d'
      · subst hd
        go_enter Tryz.func35, Tryz.ntmps35
        go_wp2
        go_ret
        exact ⟨ret_bool (by simp [sameB]), by go_grown⟩
      · have e1 : (d == d') = false := by simpa using hd
        go_enter Tryz.func35, Tryz.ntmps35
        go_wp2
        go_ret
        exact ⟨ret_bool (by simp [sameB, hd]), by go_grown⟩
    · have e1 : (n == n') = false := by simpa using hn
      go_enter Tryz.func35, Tryz.ntmps35
      go_wp2
      go_ret
      exact ⟨ret_bool (by simp [sameB, hn]), by go_grown⟩
  · have e1 : (k == k') = false := by simpa using hk
    go_enter Tryz.func35, Tryz.ntmps35
    go_wp2
    go_ret
    exact ⟨ret_bool (by simp [sameB, hk]), by go_grown⟩

set_option maxRecDepth 100000 in
set_option maxHeartbeats 1000000 in
theorem vsame_any (k n d : Int) (s : ByteArray) (k' n' d' : Int) (s' : ByteArray) (w : World) :
    Calls Tryz.prog 46 #[.agg #[.int .i64 k, .int .i64 n, .int .i64 d, .string s], .agg #[.int .i64 k', .int .i64 n', .int .i64 d', .string s']] w fun e w' => e = .returned (.bool (sameB k n d s k' n' d' s')) ∧ Below w.heap.size w w' := by
  go_enter Tryz.func46, Tryz.ntmps46
  go_wp2
  all_goals
    go_ret
    exact ⟨ret_bool (by simp_all [sameB]), by go_grown⟩

end Go.Proofs.YtiliaincniiijaaGreat

namespace Go.Proofs.YtiliaincniiijaaGreat
open Go.RowKit Go.Shelf

set_option maxRecDepth 100000 in
theorem nan64 (x : Int) (w : World) : Calls Tryz.prog 127 #[.int .i64 x] w fun e w' => e = .returned (.bool false) ∧ w' = w := by
  go_enter Tryz.func127, Tryz.ntmps127
  go_wp2
  go_ret
  exact ⟨ret_bool (by simp), rfl⟩

set_option maxRecDepth 100000 in
theorem cmp64 (x y : Int) (w : World) : Calls Tryz.prog 113 #[.int .i64 x, .int .i64 y] w fun e w' => e = .returned (.int .i64 (Lib.compareInt x y)) ∧ w' = w := by
  by_cases h1 : x < y
  · have e0 : Lib.compareInt x y = -1 := by simp [Lib.compareInt, h1]
    rw [e0]
    go_enter Tryz.func113, Tryz.ntmps113
    go_wp2_with fail
    refine (nan64 x _).mono ?_
    rintro e w1 ⟨rfl, rfl⟩
    go_wp2_with fail
    refine (nan64 y _).mono ?_
    rintro e w2 ⟨rfl, rfl⟩
    go_wp2
    go_ret
    exact ⟨rfl, rfl⟩
  · have h1' : (x < y) = False := by simp; omega
    by_cases h2 : y < x
    · have e0 : Lib.compareInt x y = 1 := by simp [Lib.compareInt, h1, h2]
      rw [e0]
      go_enter Tryz.func113, Tryz.ntmps113
      go_wp2_with fail
      refine (nan64 x _).mono ?_
      rintro e w1 ⟨rfl, rfl⟩
      go_wp2_with fail
      refine (nan64 y _).mono ?_
      rintro e w2 ⟨rfl, rfl⟩
      go_wp2
      go_ret
      exact ⟨rfl, rfl⟩
    · have h2' : (y < x) = False := by simp; omega
      have e0 : Lib.compareInt x y = 0 := by simp [Lib.compareInt, h1, h2]
      rw [e0]
      go_enter Tryz.func113, Tryz.ntmps113
      go_wp2_with fail
      refine (nan64 x _).mono ?_
      rintro e w1 ⟨rfl, rfl⟩
      go_wp2_with fail
      refine (nan64 y _).mono ?_
      rintro e w2 ⟨rfl, rfl⟩
      go_wp2
      go_ret
      exact ⟨rfl, rfl⟩

set_option maxRecDepth 100000 in
set_option maxHeartbeats 1000000 in
theorem by_number (k n d : Int) (s : ByteArray) (k' n' d' : Int) (s' : ByteArray) (w : World) :
    Calls Tryz.prog 78 #[.agg #[.int .i64 k, .int .i64 n, .int .i64 d, .string s], .agg #[.int .i64 k', .int .i64 n', .int .i64 d', .string s']] w fun e w' => e = .returned (.int .i64 (Lib.compareInt n n')) ∧ Below w.heap.size w w' := by
  go_enter Tryz.func78, Tryz.ntmps78
  go_wp2_with fail
  refine (cmp64 n n' _).mono ?_
  rintro e w1 ⟨rfl, rfl⟩
  go_wp2
  go_ret
  exact ⟨rfl, by go_grown⟩

set_option maxRecDepth 100000 in
set_option maxHeartbeats 1000000 in
theorem by_bytes (k n d : Int) (s : ByteArray) (k' n' d' : Int) (s' : ByteArray) (w : World) :
    Calls Tryz.prog 80 #[.agg #[.int .i64 k, .int .i64 n, .int .i64 d, .string s], .agg #[.int .i64 k', .int .i64 n', .int .i64 d', .string s']] w fun e w' => e = .returned (.int .i64 (Lib.compareBytes s.data.toList s'.data.toList)) ∧ Below w.heap.size w w' := by
  go_enter Tryz.func80, Tryz.ntmps80
  go_wp2_with fail
  refine (Tryz.strings_Compare s s' _).mono ?_
  rintro e w1 ⟨rfl, rfl⟩
  go_wp2
  go_ret
  exact ⟨rfl, by go_grown⟩

set_option maxRecDepth 100000 in
set_option maxHeartbeats 4000000 in
theorem by_worth (n d : Int) (s : ByteArray) (n' d' : Int) (s' : ByteArray) (w : World) (h1 : -9223372036854775808 ≤ n) (h2 : n ≤ 9223372036854775807) (g1 : -9223372036854775808 ≤ d) (g2 : d ≤ 9223372036854775807) (h1' : -9223372036854775808 ≤ n') (h2' : n' ≤ 9223372036854775807) (g1' : -9223372036854775808 ≤ d') (g2' : d' ≤ 9223372036854775807) :
    Calls Tryz.prog 79 #[.agg #[.int .i64 2, .int .i64 n, .int .i64 d, .string s], .agg #[.int .i64 2, .int .i64 n', .int .i64 d', .string s']] w fun e w' => e = .returned (.int .i64 (cmpV n d n' d')) ∧ Below w.heap.size w w' := by
  go_enter Tryz.func79, Tryz.ntmps79
  go_upto_region 1 with fail
  refine wp_world ?_
  intro W0 hW0
  have A : BlkV W0 w.heap.size 2 n d s := by rw [hW0]; constructor <;> simp (maxDischargeDepth := 12) [go_sem]
  have B : BlkV W0 (w.heap.size + 1) 2 n' d' s' := by rw [hW0]; constructor <;> simp (maxDischargeDepth := 12) [go_sem]
  have z0 : w.heap.size + 1 < W0.heap.size := by rw [hW0]; simp
  have L0 : Below w.heap.size w W0 := by rw [hW0]; go_grown
  have up : ∀ w9, Below W0.heap.size W0 w9 → Below w.heap.size w w9 := fun _ g => L0.trans (g.mono L0.size)
  clear hW0
  obtain ⟨a0, a1, a2, a3, -, -, -, -⟩ := A
  obtain ⟨b0, b1, b2, b3, -, -, -, -⟩ := B
  have z_a : w.heap.size < W0.heap.size := by omega
  go_region_held3 (fun w' => w'.cell? ⟨w.heap.size, 0, none⟩ = some (.int .i64 2) ∧ w'.cell? ⟨w.heap.size, 1, none⟩ = some (.int .i64 n) ∧ w'.cell? ⟨w.heap.size, 2, none⟩ = some (.int .i64 d) ∧ w'.cell? ⟨w.heap.size, 3, none⟩ = some (.string s) ∧ w'.cell? ⟨w.heap.size + 1, 0, none⟩ = some (.int .i64 2) ∧ w'.cell? ⟨w.heap.size + 1, 1, none⟩ = some (.int .i64 n') ∧ w'.cell? ⟨w.heap.size + 1, 2, none⟩ = some (.int .i64 d') ∧ w'.cell? ⟨w.heap.size + 1, 3, none⟩ = some (.string s')) (exact keep8 (show Below W0.heap.size W0 _ from (by repeat' (first | (with_reducible exact Below.refl _ _) | (with_reducible assumption) | (with_reducible refine bdrewN _ ?_) | (with_reducible refine Below.alloc ?_ ?_ _) | (with_reducible refine Below.drew ?_) | go_size))) a0 a1 a2 a3 b0 b1 b2 b3 z_a z0)
    (first
      | (go_at_call 115; refine (frac_any _ _ _ _ _).mono ?_; rintro e wa ⟨rfl, ca1, ca2, rfl⟩)
      | (go_at_call 114; refine (cmp_all n d n' d' _ h1 h2 g1 g2 h1' h2' g1' g2').mono ?_; rintro e w1 ⟨rfl, hb1⟩; obtain ⟨hc1, hf1, hz1, hB1, hn1, hm1⟩ := bg (n := W0.heap.size) (W0 := W0) (by repeat' (first | (with_reducible exact Below.refl _ _) | (with_reducible assumption) | (with_reducible refine bdrewN _ ?_) | (with_reducible refine Below.alloc ?_ ?_ _) | (with_reducible refine Below.drew ?_) | go_size)) (by go_size) hb1; clear hm1))
  all_goals
    go_wp2
    go_ret
    refine ⟨rfl, up _ ?_⟩
    repeat' (first | (with_reducible exact Below.refl _ _) | (with_reducible assumption) | (with_reducible refine bdrewN _ ?_) | (with_reducible refine Below.alloc ?_ ?_ _) | (with_reducible refine Below.drew ?_) | go_size)

set_option maxRecDepth 100000 in
set_option maxHeartbeats 400000 in
theorem otab_ex (w : World) :
    Calls Tryz.prog 65 #[] w fun e w' => e = .returned (.agg #[.nilFunc, .func (.func 78) #[] #[], .func (.func 79) #[] #[], .func (.func 80) #[] #[]]) ∧ ∃ c1 : Array Value, w' = w.alloc (.cells c1 93) := by
  go_enter Tryz.func65, Tryz.ntmps65
  go_wp2
  go_returns
  exact ⟨rfl, _, rfl⟩

set_option maxRecDepth 100000 in
theorem io1 (W : World) : (Instr.index 93 (.agg #[.nilFunc, .func (.func 78) #[] #[], .func (.func 79) #[] #[], .func (.func 80) #[] #[]]) (.int .i64 1)).run Tryz.prog W = .ok (.func (.func 78) #[] #[]) W := by
  simp [Instr.index, run_underlying Tryz.underlying93, asIntOf, part, isAgg, run_underlying Tryz.underlying92, go_sem]
set_option maxRecDepth 100000 in
theorem io2 (W : World) : (Instr.index 93 (.agg #[.nilFunc, .func (.func 78) #[] #[], .func (.func 79) #[] #[], .func (.func 80) #[] #[]]) (.int .i64 2)).run Tryz.prog W = .ok (.func (.func 79) #[] #[]) W := by
  simp [Instr.index, run_underlying Tryz.underlying93, asIntOf, part, isAgg, run_underlying Tryz.underlying92, go_sem]
set_option maxRecDepth 100000 in
theorem io3 (W : World) : (Instr.index 93 (.agg #[.nilFunc, .func (.func 78) #[] #[], .func (.func 79) #[] #[], .func (.func 80) #[] #[]]) (.int .i64 3)).run Tryz.prog W = .ok (.func (.func 80) #[] #[]) W := by
  simp [Instr.index, run_underlying Tryz.underlying93, asIntOf, part, isAgg, run_underlying Tryz.underlying92, go_sem]

end Go.Proofs.YtiliaincniiijaaGreat

namespace Go.Proofs.YtiliaincniiijaaGreat
open Go.RowKit Go.Shelf
set_option linter.unusedVariables false

/-- How two values stand to one another. -/
def vcmp (k n d : Int) (s : ByteArray) (k' n' d' : Int) (s' : ByteArray) : Int :=
  if chk k n d s = 0 then (if chk k' n' d' s' = 0 then (if k = k' then (if k = 1 then Lib.compareInt n n' else if k = 2 then cmpV n d n' d' else Lib.compareBytes s.data.toList s'.data.toList) else Lib.compareInt k k') else 0) else 0
theorem chk_kind {k n d : Int} {s : ByteArray} (h : chk k n d s = 0) : k = 1 ∨ k = 2 ∨ k = 3 := by
  by_cases k1 : k = 1
  · exact Or.inl k1
  · by_cases k2 : k = 2
    · exact Or.inr (Or.inl k2)
    · by_cases k3 : k = 3
      · exact Or.inr (Or.inr k3)
      · exfalso
        have e0 : chk k n d s = 20 := by simp [chk, pureB, k1, k2, k3]
        omega

set_option maxRecDepth 100000 in
set_option maxHeartbeats 2000000 in
theorem cmp_bad1 (k n d : Int) (s : ByteArray) (k' n' d' : Int) (s' : ByteArray) (w : World) (h1 : -9223372036854775808 ≤ n) (h2 : n ≤ 9223372036854775807) (g1 : -9223372036854775808 ≤ d) (g2 : d ≤ 9223372036854775807) (h1' : -9223372036854775808 ≤ n') (h2' : n' ≤ 9223372036854775807) (g1' : -9223372036854775808 ≤ d') (g2' : d' ≤ 9223372036854775807) (C : Int) (c1 : chk k n d s = C) (c3 : (C != 0) = true) :
    Calls Tryz.prog 37 #[.agg #[.int .i64 k, .int .i64 n, .int .i64 d, .string s], .agg #[.int .i64 k', .int .i64 n', .int .i64 d', .string s']] w fun e w' => e = .returned (.int .i64 0) ∧ Below w.heap.size w w' := by
  go_enter Tryz.func37, Tryz.ntmps37
  go_upto_region 1 with fail
  refine wp_world ?_
  intro W0 hW0
  have A0 : Hid (BlkV W0 w.heap.size k n d s) := by rw [hW0]; constructor <;> simp (maxDischargeDepth := 12) [go_sem]
  have B0 : Hid (BlkV W0 (w.heap.size + 1) k' n' d' s') := by rw [hW0]; constructor <;> simp (maxDischargeDepth := 12) [go_sem]
  have z0 : w.heap.size + 1 < W0.heap.size := by rw [hW0]; simp
  have K0 : Below w.heap.size w W0 := by rw [hW0]; go_grown
  clear hW0
  obtain ⟨a0, a1, a2, a3, -, -, -, -⟩ := A0.out
  go_wp2_with fail
  refine (check_any k n d s _ h1 h2 g1 g2).mono ?_
  rintro e w1 ⟨rfl, hb1⟩
  rw [c1]
  clear a0 a1 a2 a3
  have A1 : Hid (BlkV w1 w.heap.size k n d s) := A0.out.below hb1 (by omega)
  have B1 : Hid (BlkV w1 (w.heap.size + 1) k' n' d' s') := B0.out.below hb1 z0
  have z1 : w.heap.size + 1 < w1.heap.size := by have := hb1.size; omega
  have K1 : Below w.heap.size w w1 := K0.trans (hb1.mono K0.size)
  clear A0 B0 z0 K0 hb1
  go_wp2
  go_ret
  exact ⟨rfl, K1⟩

set_option maxRecDepth 100000 in
set_option maxHeartbeats 2000000 in
theorem cmp_bad2 (k n d : Int) (s : ByteArray) (k' n' d' : Int) (s' : ByteArray) (w : World) (h1 : -9223372036854775808 ≤ n) (h2 : n ≤ 9223372036854775807) (g1 : -9223372036854775808 ≤ d) (g2 : d ≤ 9223372036854775807) (h1' : -9223372036854775808 ≤ n') (h2' : n' ≤ 9223372036854775807) (g1' : -9223372036854775808 ≤ d') (g2' : d' ≤ 9223372036854775807) (C : Int) (c1 : chk k n d s = 0) (c2 : chk k' n' d' s' = C) (c3 : (C != 0) = true) :
    Calls Tryz.prog 37 #[.agg #[.int .i64 k, .int .i64 n, .int .i64 d, .string s], .agg #[.int .i64 k', .int .i64 n', .int .i64 d', .string s']] w fun e w' => e = .returned (.int .i64 0) ∧ Below w.heap.size w w' := by
  go_enter Tryz.func37, Tryz.ntmps37
  go_upto_region 1 with fail
  refine wp_world ?_
  intro W0 hW0
  have A0 : Hid (BlkV W0 w.heap.size k n d s) := by rw [hW0]; constructor <;> simp (maxDischargeDepth := 12) [go_sem]
  have B0 : Hid (BlkV W0 (w.heap.size + 1) k' n' d' s') := by rw [hW0]; constructor <;> simp (maxDischargeDepth := 12) [go_sem]
  have z0 : w.heap.size + 1 < W0.heap.size := by rw [hW0]; simp
  have K0 : Below w.heap.size w W0 := by rw [hW0]; go_grown
  clear hW0
  obtain ⟨a0, a1, a2, a3, -, -, -, -⟩ := A0.out
  go_wp2_with fail
  refine (check_any k n d s _ h1 h2 g1 g2).mono ?_
  rintro e w1 ⟨rfl, hb1⟩
  rw [c1]
  clear a0 a1 a2 a3
  have A1 : Hid (BlkV w1 w.heap.size k n d s) := A0.out.below hb1 (by omega)
  have B1 : Hid (BlkV w1 (w.heap.size + 1) k' n' d' s') := B0.out.below hb1 z0
  have z1 : w.heap.size + 1 < w1.heap.size := by have := hb1.size; omega
  have K1 : Below w.heap.size w w1 := K0.trans (hb1.mono K0.size)
  clear A0 B0 z0 K0 hb1
  obtain ⟨a0, a1, a2, a3, -, -, -, -⟩ := B1.out
  go_wp2_with fail
  refine (check_any k' n' d' s' _ h1' h2' g1' g2').mono ?_
  rintro e w2 ⟨rfl, hb2⟩
  rw [c2]
  clear a0 a1 a2 a3
  have A2 : Hid (BlkV w2 w.heap.size k n d s) := A1.out.below hb2 (by omega)
  have B2 : Hid (BlkV w2 (w.heap.size + 1) k' n' d' s') := B1.out.below hb2 z1
  have z2 : w.heap.size + 1 < w2.heap.size := by have := hb2.size; omega
  have K2 : Below w.heap.size w w2 := K1.trans (hb2.mono K1.size)
  clear A1 B1 z1 K1 hb2
  obtain ⟨a0, a1, a2, a3, -, -, -, -⟩ := A2.out
  obtain ⟨b0, b1, b2, b3, -, -, -, -⟩ := B2.out
  go_wp2
  go_ret
  exact ⟨rfl, K2⟩

set_option maxRecDepth 100000 in
set_option maxHeartbeats 2000000 in
theorem cmp_like1 (n d : Int) (s : ByteArray) (n' d' : Int) (s' : ByteArray) (w : World) (h1 : -9223372036854775808 ≤ n) (h2 : n ≤ 9223372036854775807) (g1 : -9223372036854775808 ≤ d) (g2 : d ≤ 9223372036854775807) (h1' : -9223372036854775808 ≤ n') (h2' : n' ≤ 9223372036854775807) (g1' : -9223372036854775808 ≤ d') (g2' : d' ≤ 9223372036854775807) (c1 : chk 1 n d s = 0) (c2 : chk 1 n' d' s' = 0) :
    Calls Tryz.prog 37 #[.agg #[.int .i64 1, .int .i64 n, .int .i64 d, .string s], .agg #[.int .i64 1, .int .i64 n', .int .i64 d', .string s']] w fun e w' => e = .returned (.int .i64 (Lib.compareInt n n')) ∧ Below w.heap.size w w' := by
  have IX := io1
  go_enter Tryz.func37, Tryz.ntmps37
  go_upto_region 1 with fail
  refine wp_world ?_
  intro W0 hW0
  have A0 : Hid (BlkV W0 w.heap.size 1 n d s) := by rw [hW0]; constructor <;> simp (maxDischargeDepth := 12) [go_sem]
  have B0 : Hid (BlkV W0 (w.heap.size + 1) 1 n' d' s') := by rw [hW0]; constructor <;> simp (maxDischargeDepth := 12) [go_sem]
  have z0 : w.heap.size + 1 < W0.heap.size := by rw [hW0]; simp
  have K0 : Below w.heap.size w W0 := by rw [hW0]; go_grown
  clear hW0
  obtain ⟨a0, a1, a2, a3, -, -, -, -⟩ := A0.out
  go_wp2_with fail
  refine (check_any 1 n d s _ h1 h2 g1 g2).mono ?_
  rintro e w1 ⟨rfl, hb1⟩
  rw [c1]
  clear a0 a1 a2 a3
  have A1 : Hid (BlkV w1 w.heap.size 1 n d s) := A0.out.below hb1 (by omega)
  have B1 : Hid (BlkV w1 (w.heap.size + 1) 1 n' d' s') := B0.out.below hb1 z0
  have z1 : w.heap.size + 1 < w1.heap.size := by have := hb1.size; omega
  have K1 : Below w.heap.size w w1 := K0.trans (hb1.mono K0.size)
  clear A0 B0 z0 K0 hb1
  obtain ⟨a0, a1, a2, a3, -, -, -, -⟩ := B1.out
  go_wp2_with fail
  refine (check_any 1 n' d' s' _ h1' h2' g1' g2').mono ?_
  rintro e w2 ⟨rfl, hb2⟩
  rw [c2]
  clear a0 a1 a2 a3
  have A2 : Hid (BlkV w2 w.heap.size 1 n d s) := A1.out.below hb2 (by omega)
  have B2 : Hid (BlkV w2 (w.heap.size + 1) 1 n' d' s') := B1.out.below hb2 z1
  have z2 : w.heap.size + 1 < w2.heap.size := by have := hb2.size; omega
  have K2 : Below w.heap.size w w2 := K1.trans (hb2.mono K1.size)
  clear A1 B1 z1 K1 hb2
  obtain ⟨a0, a1, a2, a3, -, -, -, -⟩ := A2.out
  obtain ⟨b0, b1, b2, b3, -, -, -, -⟩ := B2.out
  have up : ∀ w9, Below w2.heap.size w2 w9 → Below w.heap.size w w9 := fun _ g => K2.trans (g.mono K2.size)
  go_upto_region 5 with fail
  have z_a : w.heap.size < w2.heap.size := by omega
  refine wp_region_held_drew (S := (fun w' => w'.cell? ⟨w.heap.size, 0, none⟩ = some (.int .i64 1) ∧ w'.cell? ⟨w.heap.size, 1, none⟩ = some (.int .i64 n) ∧ w'.cell? ⟨w.heap.size, 2, none⟩ = some (.int .i64 d) ∧ w'.cell? ⟨w.heap.size, 3, none⟩ = some (.string s) ∧ w'.cell? ⟨w.heap.size + 1, 0, none⟩ = some (.int .i64 1) ∧ w'.cell? ⟨w.heap.size + 1, 1, none⟩ = some (.int .i64 n') ∧ w'.cell? ⟨w.heap.size + 1, 2, none⟩ = some (.int .i64 d') ∧ w'.cell? ⟨w.heap.size + 1, 3, none⟩ = some (.string s'))) (by kernel_rfl) ?_ (fun hHeld => ?_)
  · exact keep8 (show Below w2.heap.size w2 _ from (by repeat' (first | (with_reducible exact Below.refl _ _) | (with_reducible assumption) | (with_reducible refine bdrewN _ ?_) | (with_reducible refine Below.alloc ?_ ?_ _) | (with_reducible refine Below.drew ?_) | go_size))) a0 a1 a2 a3 b0 b1 b2 b3 z_a z2
  refine wpAnyH_take (i := 1) (oi := ({ dst := some 24, op := Op.fieldAddr 45 (Operand.tmp 2) 0, type := 0, pos := "value.go:46", after := #[], guard := none } : Oper)) (v := ?yv1) rfl (by kernel_rfl) (by kernel_rfl) (by kernel_rfl) (fun _ _ _ h => h) (Or.inl ⟨by rfl, ?yh1⟩) (by assumption) ?yr1
  case yh1 => (intro wq hSw; (try dsimp only at hSw); go_simp; first | done | with_reducible rfl)
  try simp only [Act.put, List.setIfInBounds_toArray, List.set_cons_zero, List.set_cons_succ]
  refine wpAnyH_take (i := 2) (oi := ({ dst := some 25, op := Op.load 3 (Operand.tmp 24), type := 3, pos := "value.go:46", after := #[{ on := 1, ground := Ground.data }], guard := none } : Oper)) (v := ?yv2) rfl (by kernel_rfl) (by kernel_rfl) (by kernel_rfl) (fun _ _ _ h => h) (Or.inl ⟨by rfl, ?yh2⟩) (by assumption) ?yr2
  case yh2 => (intro wq hSw; (try dsimp only at hSw); go_simp; first | done | with_reducible rfl)
  try simp only [Act.put, List.setIfInBounds_toArray, List.set_cons_zero, List.set_cons_succ]
  refine wpAnyH_take (i := 4) (oi := ({ dst := some 27, op := Op.load 45 (Operand.tmp 2), type := 45, pos := "value.go:46", after := #[], guard := none } : Oper)) (v := ?yv3) rfl (by kernel_rfl) (by kernel_rfl) (by kernel_rfl) (fun _ _ _ h => h) (Or.inl ⟨by rfl, ?yh3⟩) (by assumption) ?yr3
  case yh3 => (intro wq hSw; (try dsimp only at hSw); go_simp; first | done | with_reducible rfl)
  try simp only [Act.put, List.setIfInBounds_toArray, List.set_cons_zero, List.set_cons_succ]
  refine wpAnyH_take (i := 5) (oi := ({ dst := some 28, op := Op.load 45 (Operand.tmp 3), type := 45, pos := "value.go:46", after := #[], guard := none } : Oper)) (v := ?yv4) rfl (by kernel_rfl) (by kernel_rfl) (by kernel_rfl) (fun _ _ _ h => h) (Or.inl ⟨by rfl, ?yh4⟩) (by assumption) ?yr4
  case yh4 => (intro wq hSw; (try dsimp only at hSw); go_simp; first | done | with_reducible rfl)
  try simp only [Act.put, List.setIfInBounds_toArray, List.set_cons_zero, List.set_cons_succ]
  refine wpAnyH_ready (rs := [0]) (by kernel_rfl) (by simp) ?_
  refine AllReadyH.cons (o := ({ dst := some 23, op := Op.call { callee := Callee.value (Operand.func 65), args := #[], argTypes := #[] }, type := 93, pos := "value.go:46", after := #[], guard := none } : Oper)) rfl (fun K hK => ?_) AllReadyH.nil
  go_simp
  refine (otab_ex _).mono ?_
  rintro e wa ⟨rfl, ca0, rfl⟩
  (try go_wp2_with fail)
  refine hK.out _ _ ?_ (fun hHeld => ?_)
  · exact keep8 (show Below w2.heap.size w2 _ from (by repeat' (first | (with_reducible exact Below.refl _ _) | (with_reducible assumption) | (with_reducible refine bdrewN _ ?_) | (with_reducible refine Below.alloc ?_ ?_ _) | (with_reducible refine Below.drew ?_) | go_size))) a0 a1 a2 a3 b0 b1 b2 b3 z_a z2
  clear hK K
  try simp only [Act.put, List.setIfInBounds_toArray, List.set_cons_zero, List.set_cons_succ]
  refine wpAnyH_take (i := 3) (oi := ({ dst := some 26, op := Op.index 93 (Operand.tmp 23) (Operand.tmp 25), type := 92, pos := "value.go:46", after := #[{ on := 0, ground := Ground.data }, { on := 2, ground := Ground.data }], guard := none } : Oper)) (v := ?yv5) rfl (by kernel_rfl) (by kernel_rfl) (by kernel_rfl) (fun _ _ _ h => h) (Or.inl ⟨by rfl, ?yh5⟩) (by assumption) ?yr5
  case yh5 => (intro wq hSw; (try dsimp only at hSw); go_simp; first | done | with_reducible rfl)
  try simp only [Act.put, List.setIfInBounds_toArray, List.set_cons_zero, List.set_cons_succ]
  refine wpAnyH_ready (rs := [6]) (by kernel_rfl) (by simp) ?_
  refine AllReadyH.cons (o := ({ dst := some 29, op := Op.call { callee := Callee.value (Operand.tmp 26), args := #[Operand.tmp 27, Operand.tmp 28], argTypes := #[45, 45] }, type := 3, pos := "value.go:46", after := #[{ on := 3, ground := Ground.data }, { on := 4, ground := Ground.data }, { on := 5, ground := Ground.data }, { on := 0, ground := Ground.chain }], guard := none } : Oper)) rfl (fun K hK => ?_) AllReadyH.nil
  go_simp
  refine (by_number 1 n d s 1 n' d' s' _).mono ?_
  rintro e w5 ⟨rfl, hb5⟩
  obtain ⟨hc5, hf5, hz5, hB5, hn5, hm5⟩ := bg (n := w2.heap.size) (W0 := w2) (by repeat' (first | (with_reducible exact Below.refl _ _) | (with_reducible assumption) | (with_reducible refine bdrewN _ ?_) | (with_reducible refine Below.alloc ?_ ?_ _) | (with_reducible refine Below.drew ?_) | go_size)) (by go_size) hb5
  clear hm5
  (try go_wp2_with fail)
  refine hK.out _ _ ?_ (fun hHeld => ?_)
  · exact keep8 (show Below w2.heap.size w2 _ from (by repeat' (first | (with_reducible exact Below.refl _ _) | (with_reducible assumption) | (with_reducible refine bdrewN _ ?_) | (with_reducible refine Below.alloc ?_ ?_ _) | (with_reducible refine Below.drew ?_) | go_size))) a0 a1 a2 a3 b0 b1 b2 b3 z_a z2
  clear hK K
  try simp only [Act.put, List.setIfInBounds_toArray, List.set_cons_zero, List.set_cons_succ]
  refine wpAnyH_take (i := 7) (oi := ({ dst := some 4, op := Op.assign (Operand.tmp 29), type := 3, pos := "value.go:46", after := #[{ on := 6, ground := Ground.data }, { on := 6, ground := Ground.chain }, { on := 0, ground := Ground.phase }, { on := 1, ground := Ground.phase }, { on := 2, ground := Ground.phase }, { on := 3, ground := Ground.phase }, { on := 4, ground := Ground.phase }, { on := 5, ground := Ground.phase }, { on := 6, ground := Ground.phase }], guard := none } : Oper)) (v := ?yv6) rfl (by kernel_rfl) (by kernel_rfl) (by kernel_rfl) (fun _ _ _ h => h) (Or.inl ⟨by rfl, ?yh6⟩) (by assumption) ?yr6
  case yh6 => (intro wq hSw; (try dsimp only at hSw); go_simp; first | done | with_reducible rfl)
  try simp only [Act.put, List.setIfInBounds_toArray, List.set_cons_zero, List.set_cons_succ]
  refine wpAnyH_done (by kernel_rfl) ?_ _
  (try go_wp2)
  go_ret
  refine ⟨rfl, up _ ?_⟩
  exact (by repeat' (first | (with_reducible exact Below.refl _ _) | (with_reducible assumption) | (with_reducible refine bdrewN _ ?_) | (with_reducible refine Below.alloc ?_ ?_ _) | (with_reducible refine Below.drew ?_) | go_size))

set_option maxRecDepth 100000 in
set_option maxHeartbeats 2000000 in
theorem cmp_like2 (n d : Int) (s : ByteArray) (n' d' : Int) (s' : ByteArray) (w : World) (h1 : -9223372036854775808 ≤ n) (h2 : n ≤ 9223372036854775807) (g1 : -9223372036854775808 ≤ d) (g2 : d ≤ 9223372036854775807) (h1' : -9223372036854775808 ≤ n') (h2' : n' ≤ 9223372036854775807) (g1' : -9223372036854775808 ≤ d') (g2' : d' ≤ 9223372036854775807) (c1 : chk 2 n d s = 0) (c2 : chk 2 n' d' s' = 0) :
    Calls Tryz.prog 37 #[.agg #[.int .i64 2, .int .i64 n, .int .i64 d, .string s], .agg #[.int .i64 2, .int .i64 n', .int .i64 d', .string s']] w fun e w' => e = .returned (.int .i64 (cmpV n d n' d')) ∧ Below w.heap.size w w' := by
  have IX := io2
  go_enter Tryz.func37, Tryz.ntmps37
  go_upto_region 1 with fail
  refine wp_world ?_
  intro W0 hW0
  have A0 : Hid (BlkV W0 w.heap.size 2 n d s) := by rw [hW0]; constructor <;> simp (maxDischargeDepth := 12) [go_sem]
  have B0 : Hid (BlkV W0 (w.heap.size + 1) 2 n' d' s') := by rw [hW0]; constructor <;> simp (maxDischargeDepth := 12) [go_sem]
  have z0 : w.heap.size + 1 < W0.heap.size := by rw [hW0]; simp
  have K0 : Below w.heap.size w W0 := by rw [hW0]; go_grown
  clear hW0
  obtain ⟨a0, a1, a2, a3, -, -, -, -⟩ := A0.out
  go_wp2_with fail
  refine (check_any 2 n d s _ h1 h2 g1 g2).mono ?_
  rintro e w1 ⟨rfl, hb1⟩
  rw [c1]
  clear a0 a1 a2 a3
  have A1 : Hid (BlkV w1 w.heap.size 2 n d s) := A0.out.below hb1 (by omega)
  have B1 : Hid (BlkV w1 (w.heap.size + 1) 2 n' d' s') := B0.out.below hb1 z0
  have z1 : w.heap.size + 1 < w1.heap.size := by have := hb1.size; omega
  have K1 : Below w.heap.size w w1 := K0.trans (hb1.mono K0.size)
  clear A0 B0 z0 K0 hb1
  obtain ⟨a0, a1, a2, a3, -, -, -, -⟩ := B1.out
  go_wp2_with fail
  refine (check_any 2 n' d' s' _ h1' h2' g1' g2').mono ?_
  rintro e w2 ⟨rfl, hb2⟩
  rw [c2]
  clear a0 a1 a2 a3
  have A2 : Hid (BlkV w2 w.heap.size 2 n d s) := A1.out.below hb2 (by omega)
  have B2 : Hid (BlkV w2 (w.heap.size + 1) 2 n' d' s') := B1.out.below hb2 z1
  have z2 : w.heap.size + 1 < w2.heap.size := by have := hb2.size; omega
  have K2 : Below w.heap.size w w2 := K1.trans (hb2.mono K1.size)
  clear A1 B1 z1 K1 hb2
  obtain ⟨a0, a1, a2, a3, -, -, -, -⟩ := A2.out
  obtain ⟨b0, b1, b2, b3, -, -, -, -⟩ := B2.out
  have up : ∀ w9, Below w2.heap.size w2 w9 → Below w.heap.size w w9 := fun _ g => K2.trans (g.mono K2.size)
  go_upto_region 5 with fail
  have z_a : w.heap.size < w2.heap.size := by omega
  refine wp_region_held_drew (S := (fun w' => w'.cell? ⟨w.heap.size, 0, none⟩ = some (.int .i64 2) ∧ w'.cell? ⟨w.heap.size, 1, none⟩ = some (.int .i64 n) ∧ w'.cell? ⟨w.heap.size, 2, none⟩ = some (.int .i64 d) ∧ w'.cell? ⟨w.heap.size, 3, none⟩ = some (.string s) ∧ w'.cell? ⟨w.heap.size + 1, 0, none⟩ = some (.int .i64 2) ∧ w'.cell? ⟨w.heap.size + 1, 1, none⟩ = some (.int .i64 n') ∧ w'.cell? ⟨w.heap.size + 1, 2, none⟩ = some (.int .i64 d') ∧ w'.cell? ⟨w.heap.size + 1, 3, none⟩ = some (.string s'))) (by kernel_rfl) ?_ (fun hHeld => ?_)
  · exact keep8 (show Below w2.heap.size w2 _ from (by repeat' (first | (with_reducible exact Below.refl _ _) | (with_reducible assumption) | (with_reducible refine bdrewN _ ?_) | (with_reducible refine Below.alloc ?_ ?_ _) | (with_reducible refine Below.drew ?_) | go_size))) a0 a1 a2 a3 b0 b1 b2 b3 z_a z2
  refine wpAnyH_take (i := 1) (oi := ({ dst := some 24, op := Op.fieldAddr 45 (Operand.tmp 2) 0, type := 0, pos := "value.go:46", after := #[], guard := none } : Oper)) (v := ?yv1) rfl (by kernel_rfl) (by kernel_rfl) (by kernel_rfl) (fun _ _ _ h => h) (Or.inl ⟨by rfl, ?yh1⟩) (by assumption) ?yr1
  case yh1 => (intro wq hSw; (try dsimp only at hSw); go_simp; first | done | with_reducible rfl)
  try simp only [Act.put, List.setIfInBounds_toArray, List.set_cons_zero, List.set_cons_succ]
  refine wpAnyH_take (i := 2) (oi := ({ dst := some 25, op := Op.load 3 (Operand.tmp 24), type := 3, pos := "value.go:46", after := #[{ on := 1, ground := Ground.data }], guard := none } : Oper)) (v := ?yv2) rfl (by kernel_rfl) (by kernel_rfl) (by kernel_rfl) (fun _ _ _ h => h) (Or.inl ⟨by rfl, ?yh2⟩) (by assumption) ?yr2
  case yh2 => (intro wq hSw; (try dsimp only at hSw); go_simp; first | done | with_reducible rfl)
  try simp only [Act.put, List.setIfInBounds_toArray, List.set_cons_zero, List.set_cons_succ]
  refine wpAnyH_take (i := 4) (oi := ({ dst := some 27, op := Op.load 45 (Operand.tmp 2), type := 45, pos := "value.go:46", after := #[], guard := none } : Oper)) (v := ?yv3) rfl (by kernel_rfl) (by kernel_rfl) (by kernel_rfl) (fun _ _ _ h => h) (Or.inl ⟨by rfl, ?yh3⟩) (by assumption) ?yr3
  case yh3 => (intro wq hSw; (try dsimp only at hSw); go_simp; first | done | with_reducible rfl)
  try simp only [Act.put, List.setIfInBounds_toArray, List.set_cons_zero, List.set_cons_succ]
  refine wpAnyH_take (i := 5) (oi := ({ dst := some 28, op := Op.load 45 (Operand.tmp 3), type := 45, pos := "value.go:46", after := #[], guard := none } : Oper)) (v := ?yv4) rfl (by kernel_rfl) (by kernel_rfl) (by kernel_rfl) (fun _ _ _ h => h) (Or.inl ⟨by rfl, ?yh4⟩) (by assumption) ?yr4
  case yh4 => (intro wq hSw; (try dsimp only at hSw); go_simp; first | done | with_reducible rfl)
  try simp only [Act.put, List.setIfInBounds_toArray, List.set_cons_zero, List.set_cons_succ]
  refine wpAnyH_ready (rs := [0]) (by kernel_rfl) (by simp) ?_
  refine AllReadyH.cons (o := ({ dst := some 23, op := Op.call { callee := Callee.value (Operand.func 65), args := #[], argTypes := #[] }, type := 93, pos := "value.go:46", after := #[], guard := none } : Oper)) rfl (fun K hK => ?_) AllReadyH.nil
  go_simp
  refine (otab_ex _).mono ?_
  rintro e wa ⟨rfl, ca0, rfl⟩
  (try go_wp2_with fail)
  refine hK.out _ _ ?_ (fun hHeld => ?_)
  · exact keep8 (show Below w2.heap.size w2 _ from (by repeat' (first | (with_reducible exact Below.refl _ _) | (with_reducible assumption) | (with_reducible refine bdrewN _ ?_) | (with_reducible refine Below.alloc ?_ ?_ _) | (with_reducible refine Below.drew ?_) | go_size))) a0 a1 a2 a3 b0 b1 b2 b3 z_a z2
  clear hK K
  try simp only [Act.put, List.setIfInBounds_toArray, List.set_cons_zero, List.set_cons_succ]
  refine wpAnyH_take (i := 3) (oi := ({ dst := some 26, op := Op.index 93 (Operand.tmp 23) (Operand.tmp 25), type := 92, pos := "value.go:46", after := #[{ on := 0, ground := Ground.data }, { on := 2, ground := Ground.data }], guard := none } : Oper)) (v := ?yv5) rfl (by kernel_rfl) (by kernel_rfl) (by kernel_rfl) (fun _ _ _ h => h) (Or.inl ⟨by rfl, ?yh5⟩) (by assumption) ?yr5
  case yh5 => (intro wq hSw; (try dsimp only at hSw); go_simp; first | done | with_reducible rfl)
  try simp only [Act.put, List.setIfInBounds_toArray, List.set_cons_zero, List.set_cons_succ]
  refine wpAnyH_ready (rs := [6]) (by kernel_rfl) (by simp) ?_
  refine AllReadyH.cons (o := ({ dst := some 29, op := Op.call { callee := Callee.value (Operand.tmp 26), args := #[Operand.tmp 27, Operand.tmp 28], argTypes := #[45, 45] }, type := 3, pos := "value.go:46", after := #[{ on := 3, ground := Ground.data }, { on := 4, ground := Ground.data }, { on := 5, ground := Ground.data }, { on := 0, ground := Ground.chain }], guard := none } : Oper)) rfl (fun K hK => ?_) AllReadyH.nil
  go_simp
  refine (by_worth n d s n' d' s' _ h1 h2 g1 g2 h1' h2' g1' g2').mono ?_
  rintro e w5 ⟨rfl, hb5⟩
  obtain ⟨hc5, hf5, hz5, hB5, hn5, hm5⟩ := bg (n := w2.heap.size) (W0 := w2) (by repeat' (first | (with_reducible exact Below.refl _ _) | (with_reducible assumption) | (with_reducible refine bdrewN _ ?_) | (with_reducible refine Below.alloc ?_ ?_ _) | (with_reducible refine Below.drew ?_) | go_size)) (by go_size) hb5
  clear hm5
  (try go_wp2_with fail)
  refine hK.out _ _ ?_ (fun hHeld => ?_)
  · exact keep8 (show Below w2.heap.size w2 _ from (by repeat' (first | (with_reducible exact Below.refl _ _) | (with_reducible assumption) | (with_reducible refine bdrewN _ ?_) | (with_reducible refine Below.alloc ?_ ?_ _) | (with_reducible refine Below.drew ?_) | go_size))) a0 a1 a2 a3 b0 b1 b2 b3 z_a z2
  clear hK K
  try simp only [Act.put, List.setIfInBounds_toArray, List.set_cons_zero, List.set_cons_succ]
  refine wpAnyH_take (i := 7) (oi := ({ dst := some 4, op := Op.assign (Operand.tmp 29), type := 3, pos := "value.go:46", after := #[{ on := 6, ground := Ground.data }, { on := 6, ground := Ground.chain }, { on := 0, ground := Ground.phase }, { on := 1, ground := Ground.phase }, { on := 2, ground := Ground.phase }, { on := 3, ground := Ground.phase }, { on := 4, ground := Ground.phase }, { on := 5, ground := Ground.phase }, { on := 6, ground := Ground.phase }], guard := none } : Oper)) (v := ?yv6) rfl (by kernel_rfl) (by kernel_rfl) (by kernel_rfl) (fun _ _ _ h => h) (Or.inl ⟨by rfl, ?yh6⟩) (by assumption) ?yr6
  case yh6 => (intro wq hSw; (try dsimp only at hSw); go_simp; first | done | with_reducible rfl)
  try simp only [Act.put, List.setIfInBounds_toArray, List.set_cons_zero, List.set_cons_succ]
  refine wpAnyH_done (by kernel_rfl) ?_ _
  (try go_wp2)
  go_ret
  refine ⟨rfl, up _ ?_⟩
  exact (by repeat' (first | (with_reducible exact Below.refl _ _) | (with_reducible assumption) | (with_reducible refine bdrewN _ ?_) | (with_reducible refine Below.alloc ?_ ?_ _) | (with_reducible refine Below.drew ?_) | go_size))

set_option maxRecDepth 100000 in
set_option maxHeartbeats 2000000 in
theorem cmp_like3 (n d : Int) (s : ByteArray) (n' d' : Int) (s' : ByteArray) (w : World) (h1 : -9223372036854775808 ≤ n) (h2 : n ≤ 9223372036854775807) (g1 : -9223372036854775808 ≤ d) (g2 : d ≤ 9223372036854775807) (h1' : -9223372036854775808 ≤ n') (h2' : n' ≤ 9223372036854775807) (g1' : -9223372036854775808 ≤ d') (g2' : d' ≤ 9223372036854775807) (c1 : chk 3 n d s = 0) (c2 : chk 3 n' d' s' = 0) :
    Calls Tryz.prog 37 #[.agg #[.int .i64 3, .int .i64 n, .int .i64 d, .string s], .agg #[.int .i64 3, .int .i64 n', .int .i64 d', .string s']] w fun e w' => e = .returned (.int .i64 (Lib.compareBytes s.data.toList s'.data.toList)) ∧ Below w.heap.size w w' := by
  have IX := io3
  go_enter Tryz.func37, Tryz.ntmps37
  go_upto_region 1 with fail
  refine wp_world ?_
  intro W0 hW0
  have A0 : Hid (BlkV W0 w.heap.size 3 n d s) := by rw [hW0]; constructor <;> simp (maxDischargeDepth := 12) [go_sem]
  have B0 : Hid (BlkV W0 (w.heap.size + 1) 3 n' d' s') := by rw [hW0]; constructor <;> simp (maxDischargeDepth := 12) [go_sem]
  have z0 : w.heap.size + 1 < W0.heap.size := by rw [hW0]; simp
  have K0 : Below w.heap.size w W0 := by rw [hW0]; go_grown
  clear hW0
  obtain ⟨a0, a1, a2, a3, -, -, -, -⟩ := A0.out
  go_wp2_with fail
  refine (check_any 3 n d s _ h1 h2 g1 g2).mono ?_
  rintro e w1 ⟨rfl, hb1⟩
  rw [c1]
  clear a0 a1 a2 a3
  have A1 : Hid (BlkV w1 w.heap.size 3 n d s) := A0.out.below hb1 (by omega)
  have B1 : Hid (BlkV w1 (w.heap.size + 1) 3 n' d' s') := B0.out.below hb1 z0
  have z1 : w.heap.size + 1 < w1.heap.size := by have := hb1.size; omega
  have K1 : Below w.heap.size w w1 := K0.trans (hb1.mono K0.size)
  clear A0 B0 z0 K0 hb1
  obtain ⟨a0, a1, a2, a3, -, -, -, -⟩ := B1.out
  go_wp2_with fail
  refine (check_any 3 n' d' s' _ h1' h2' g1' g2').mono ?_
  rintro e w2 ⟨rfl, hb2⟩
  rw [c2]
  clear a0 a1 a2 a3
  have A2 : Hid (BlkV w2 w.heap.size 3 n d s) := A1.out.below hb2 (by omega)
  have B2 : Hid (BlkV w2 (w.heap.size + 1) 3 n' d' s') := B1.out.below hb2 z1
  have z2 : w.heap.size + 1 < w2.heap.size := by have := hb2.size; omega
  have K2 : Below w.heap.size w w2 := K1.trans (hb2.mono K1.size)
  clear A1 B1 z1 K1 hb2
  obtain ⟨a0, a1, a2, a3, -, -, -, -⟩ := A2.out
  obtain ⟨b0, b1, b2, b3, -, -, -, -⟩ := B2.out
  have up : ∀ w9, Below w2.heap.size w2 w9 → Below w.heap.size w w9 := fun _ g => K2.trans (g.mono K2.size)
  go_upto_region 5 with fail
  have z_a : w.heap.size < w2.heap.size := by omega
  refine wp_region_held_drew (S := (fun w' => w'.cell? ⟨w.heap.size, 0, none⟩ = some (.int .i64 3) ∧ w'.cell? ⟨w.heap.size, 1, none⟩ = some (.int .i64 n) ∧ w'.cell? ⟨w.heap.size, 2, none⟩ = some (.int .i64 d) ∧ w'.cell? ⟨w.heap.size, 3, none⟩ = some (.string s) ∧ w'.cell? ⟨w.heap.size + 1, 0, none⟩ = some (.int .i64 3) ∧ w'.cell? ⟨w.heap.size + 1, 1, none⟩ = some (.int .i64 n') ∧ w'.cell? ⟨w.heap.size + 1, 2, none⟩ = some (.int .i64 d') ∧ w'.cell? ⟨w.heap.size + 1, 3, none⟩ = some (.string s'))) (by kernel_rfl) ?_ (fun hHeld => ?_)
  · exact keep8 (show Below w2.heap.size w2 _ from (by repeat' (first | (with_reducible exact Below.refl _ _) | (with_reducible assumption) | (with_reducible refine bdrewN _ ?_) | (with_reducible refine Below.alloc ?_ ?_ _) | (with_reducible refine Below.drew ?_) | go_size))) a0 a1 a2 a3 b0 b1 b2 b3 z_a z2
  refine wpAnyH_take (i := 1) (oi := ({ dst := some 24, op := Op.fieldAddr 45 (Operand.tmp 2) 0, type := 0, pos := "value.go:46", after := #[], guard := none } : Oper)) (v := ?yv1) rfl (by kernel_rfl) (by kernel_rfl) (by kernel_rfl) (fun _ _ _ h => h) (Or.inl ⟨by rfl, ?yh1⟩) (by assumption) ?yr1
  case yh1 => (intro wq hSw; (try dsimp only at hSw); go_simp; first | done | with_reducible rfl)
  try simp only [Act.put, List.setIfInBounds_toArray, List.set_cons_zero, List.set_cons_succ]
  refine wpAnyH_take (i := 2) (oi := ({ dst := some 25, op := Op.load 3 (Operand.tmp 24), type := 3, pos := "value.go:46", after := #[{ on := 1, ground := Ground.data }], guard := none } : Oper)) (v := ?yv2) rfl (by kernel_rfl) (by kernel_rfl) (by kernel_rfl) (fun _ _ _ h => h) (Or.inl ⟨by rfl, ?yh2⟩) (by assumption) ?yr2
  case yh2 => (intro wq hSw; (try dsimp only at hSw); go_simp; first | done | with_reducible rfl)
  try simp only [Act.put, List.setIfInBounds_toArray, List.set_cons_zero, List.set_cons_succ]
  refine wpAnyH_take (i := 4) (oi := ({ dst := some 27, op := Op.load 45 (Operand.tmp 2), type := 45, pos := "value.go:46", after := #[], guard := none } : Oper)) (v := ?yv3) rfl (by kernel_rfl) (by kernel_rfl) (by kernel_rfl) (fun _ _ _ h => h) (Or.inl ⟨by rfl, ?yh3⟩) (by assumption) ?yr3
  case yh3 => (intro wq hSw; (try dsimp only at hSw); go_simp; first | done | with_reducible rfl)
  try simp only [Act.put, List.setIfInBounds_toArray, List.set_cons_zero, List.set_cons_succ]
  refine wpAnyH_take (i := 5) (oi := ({ dst := some 28, op := Op.load 45 (Operand.tmp 3), type := 45, pos := "value.go:46", after := #[], guard := none } : Oper)) (v := ?yv4) rfl (by kernel_rfl) (by kernel_rfl) (by kernel_rfl) (fun _ _ _ h => h) (Or.inl ⟨by rfl, ?yh4⟩) (by assumption) ?yr4
  case yh4 => (intro wq hSw; (try dsimp only at hSw); go_simp; first | done | with_reducible rfl)
  try simp only [Act.put, List.setIfInBounds_toArray, List.set_cons_zero, List.set_cons_succ]
  refine wpAnyH_ready (rs := [0]) (by kernel_rfl) (by simp) ?_
  refine AllReadyH.cons (o := ({ dst := some 23, op := Op.call { callee := Callee.value (Operand.func 65), args := #[], argTypes := #[] }, type := 93, pos := "value.go:46", after := #[], guard := none } : Oper)) rfl (fun K hK => ?_) AllReadyH.nil
  go_simp
  refine (otab_ex _).mono ?_
  rintro e wa ⟨rfl, ca0, rfl⟩
  (try go_wp2_with fail)
  refine hK.out _ _ ?_ (fun hHeld => ?_)
  · exact keep8 (show Below w2.heap.size w2 _ from (by repeat' (first | (with_reducible exact Below.refl _ _) | (with_reducible assumption) | (with_reducible refine bdrewN _ ?_) | (with_reducible refine Below.alloc ?_ ?_ _) | (with_reducible refine Below.drew ?_) | go_size))) a0 a1 a2 a3 b0 b1 b2 b3 z_a z2
  clear hK K
  try simp only [Act.put, List.setIfInBounds_toArray, List.set_cons_zero, List.set_cons_succ]
  refine wpAnyH_take (i := 3) (oi := ({ dst := some 26, op := Op.index 93 (Operand.tmp 23) (Operand.tmp 25), type := 92, pos := "value.go:46", after := #[{ on := 0, ground := Ground.data }, { on := 2, ground := Ground.data }], guard := none } : Oper)) (v := ?yv5) rfl (by kernel_rfl) (by kernel_rfl) (by kernel_rfl) (fun _ _ _ h => h) (Or.inl ⟨by rfl, ?yh5⟩) (by assumption) ?yr5
  case yh5 => (intro wq hSw; (try dsimp only at hSw); go_simp; first | done | with_reducible rfl)
  try simp only [Act.put, List.setIfInBounds_toArray, List.set_cons_zero, List.set_cons_succ]
  refine wpAnyH_ready (rs := [6]) (by kernel_rfl) (by simp) ?_
  refine AllReadyH.cons (o := ({ dst := some 29, op := Op.call { callee := Callee.value (Operand.tmp 26), args := #[Operand.tmp 27, Operand.tmp 28], argTypes := #[45, 45] }, type := 3, pos := "value.go:46", after := #[{ on := 3, ground := Ground.data }, { on := 4, ground := Ground.data }, { on := 5, ground := Ground.data }, { on := 0, ground := Ground.chain }], guard := none } : Oper)) rfl (fun K hK => ?_) AllReadyH.nil
  go_simp
  refine (by_bytes 3 n d s 3 n' d' s' _).mono ?_
  rintro e w5 ⟨rfl, hb5⟩
  obtain ⟨hc5, hf5, hz5, hB5, hn5, hm5⟩ := bg (n := w2.heap.size) (W0 := w2) (by repeat' (first | (with_reducible exact Below.refl _ _) | (with_reducible assumption) | (with_reducible refine bdrewN _ ?_) | (with_reducible refine Below.alloc ?_ ?_ _) | (with_reducible refine Below.drew ?_) | go_size)) (by go_size) hb5
  clear hm5
  (try go_wp2_with fail)
  refine hK.out _ _ ?_ (fun hHeld => ?_)
  · exact keep8 (show Below w2.heap.size w2 _ from (by repeat' (first | (with_reducible exact Below.refl _ _) | (with_reducible assumption) | (with_reducible refine bdrewN _ ?_) | (with_reducible refine Below.alloc ?_ ?_ _) | (with_reducible refine Below.drew ?_) | go_size))) a0 a1 a2 a3 b0 b1 b2 b3 z_a z2
  clear hK K
  try simp only [Act.put, List.setIfInBounds_toArray, List.set_cons_zero, List.set_cons_succ]
  refine wpAnyH_take (i := 7) (oi := ({ dst := some 4, op := Op.assign (Operand.tmp 29), type := 3, pos := "value.go:46", after := #[{ on := 6, ground := Ground.data }, { on := 6, ground := Ground.chain }, { on := 0, ground := Ground.phase }, { on := 1, ground := Ground.phase }, { on := 2, ground := Ground.phase }, { on := 3, ground := Ground.phase }, { on := 4, ground := Ground.phase }, { on := 5, ground := Ground.phase }, { on := 6, ground := Ground.phase }], guard := none } : Oper)) (v := ?yv6) rfl (by kernel_rfl) (by kernel_rfl) (by kernel_rfl) (fun _ _ _ h => h) (Or.inl ⟨by rfl, ?yh6⟩) (by assumption) ?yr6
  case yh6 => (intro wq hSw; (try dsimp only at hSw); go_simp; first | done | with_reducible rfl)
  try simp only [Act.put, List.setIfInBounds_toArray, List.set_cons_zero, List.set_cons_succ]
  refine wpAnyH_done (by kernel_rfl) ?_ _
  (try go_wp2)
  go_ret
  refine ⟨rfl, up _ ?_⟩
  exact (by repeat' (first | (with_reducible exact Below.refl _ _) | (with_reducible assumption) | (with_reducible refine bdrewN _ ?_) | (with_reducible refine Below.alloc ?_ ?_ _) | (with_reducible refine Below.drew ?_) | go_size))

theorem vcompare_any (k n d : Int) (s : ByteArray) (k' n' d' : Int) (s' : ByteArray) (w : World) (h1 : -9223372036854775808 ≤ n) (h2 : n ≤ 9223372036854775807) (g1 : -9223372036854775808 ≤ d) (g2 : d ≤ 9223372036854775807) (h1' : -9223372036854775808 ≤ n') (h2' : n' ≤ 9223372036854775807) (g1' : -9223372036854775808 ≤ d') (g2' : d' ≤ 9223372036854775807) :
    Calls Tryz.prog 37 #[.agg #[.int .i64 k, .int .i64 n, .int .i64 d, .string s], .agg #[.int .i64 k', .int .i64 n', .int .i64 d', .string s']] w fun e w' => e = .returned (.int .i64 (vcmp k n d s k' n' d' s')) ∧ Below w.heap.size w w' := by
  by_cases c1 : chk k n d s = 0
  · by_cases c2 : chk k' n' d' s' = 0
    · by_cases hk : k = k'
      · subst hk
        rcases chk_kind c1 with rfl | rfl | rfl
        · have e0 : vcmp 1 n d s 1 n' d' s' = Lib.compareInt n n' := by simp [vcmp, c1, c2]
          rw [e0]
          exact cmp_like1 n d s n' d' s' w h1 h2 g1 g2 h1' h2' g1' g2' c1 c2
        · have e0 : vcmp 2 n d s 2 n' d' s' = cmpV n d n' d' := by simp [vcmp, c1, c2]
          rw [e0]
          exact cmp_like2 n d s n' d' s' w h1 h2 g1 g2 h1' h2' g1' g2' c1 c2
        · have e0 : vcmp 3 n d s 3 n' d' s' = Lib.compareBytes s.data.toList s'.data.toList := by simp [vcmp, c1, c2]
          rw [e0]
          exact cmp_like3 n d s n' d' s' w h1 h2 g1 g2 h1' h2' g1' g2' c1 c2
      · have e0 : vcmp k n d s k' n' d' s' = Lib.compareInt k k' := by simp [vcmp, c1, c2, hk]
        rw [e0]
        exact cmp_unlike k n d s k' n' d' s' w h1 h2 g1 g2 h1' h2' g1' g2' c1 c2 (by simpa using hk)
    · have e0 : vcmp k n d s k' n' d' s' = 0 := by simp [vcmp, c2]
      rw [e0]
      exact cmp_bad2 k n d s k' n' d' s' w h1 h2 g1 g2 h1' h2' g1' g2' _ c1 rfl (by simpa using c2)
  · have e0 : vcmp k n d s k' n' d' s' = 0 := by simp [vcmp, c1]
    rw [e0]
    exact cmp_bad1 k n d s k' n' d' s' w h1 h2 g1 g2 h1' h2' g1' g2' _ rfl (by simpa using c1)

end Go.Proofs.YtiliaincniiijaaGreat
