/- What a formula must be, whatever stands within. -/
import Derived.Test.YtfajjphfjilpnaaGreatZ01
import Derived.ChangeKeysEq
import Derived.Deep.Cut
import Derived.BigQuiet
import Derived.Lib.Bytealg
import Derived.Lib.AppendIntMem
import Derived.Lib.ItoaLen
import Derived.LoopN
import Derived.Lib.ConvBytes
import Derived.Lib.AtoiErrMem
import Derived.Deep.DeepCutAuto
import Derived.Laws.EntriesVeiled

namespace Go.Proofs.YtfajjphfjilpnaaGreat
open Go.RowKit

set_option maxRecDepth 100000 in
/-- '==' between two rows of four digits. -/
theorem eq_dig (w : World) (x0 x1 x2 x3 y0 y1 y2 y3 : Int) :
    Sem.run Tryz.prog (Op.equalIn 9999 155 (.agg #[.int .u64 x0, .int .u64 x1, .int .u64 x2, .int .u64 x3]) (.agg #[.int .u64 y0, .int .u64 y1, .int .u64 y2, .int .u64 y3])) w = .ok (x0 == y0 && (x1 == y1 && (x2 == y2 && x3 == y3))) w := by
  have hp : Tryz.prog.plainKey 136 = true := by kernel_rfl
  have hc : Tryz.prog.cellsOf 136 = 1 := by kernel_rfl
  obtain ⟨i, hi⟩ : ∃ i, Tryz.prog.info? 136 = some i := ⟨_, rfl⟩
  have P0 : ∀ (xs : Array Value) (o : Nat) (a : Value), xs[o]? = some a → (part 136 xs o).run Tryz.prog w = .ok a w := fun xs o a h => run_part_plain w hp h
  have E0 : ∀ a b : Int, (Op.equalIn 9998 136 (.int .u64 a) (.int .u64 b)).run Tryz.prog w = .ok (a == b) w := fun a b => run_equalIn_int w 9997 _ _ _ a b Tryz.underlying136
  rw [run_equalIn_array w 9998 _ _ Tryz.underlying155 hi, hc]
  simp only [show List.range 4 = [0, 1, 2, 3] from rfl, Op.eqItems, Sem.run_bind, Nat.mul_one]
  rw [P0 _ 0 (.int .u64 x0) rfl, Result.andThen_ok, P0 _ 0 (.int .u64 y0) rfl, Result.andThen_ok, E0, Result.andThen_ok]
  by_cases h0 : x0 = y0
  · by_cases h1 : x1 = y1
    · by_cases h2 : x2 = y2
      · by_cases h3 : x3 = y3
        · simp [h0, h1, h2, h3, P0, E0]
        · simp [h0, h1, h2, h3, P0, E0]
      · simp [h0, h1, h2, P0, E0]
    · simp [h0, h1, P0, E0]
  · simp [h0]

theorem eq_digT (w : World) (x0 x1 x2 x3 : Int) :
    Sem.run Tryz.prog (Op.equalIn 9999 155 (.agg #[.int .u64 x0, .int .u64 x1, .int .u64 x2, .int .u64 x3]) (.agg #[.int .u64 x0, .int .u64 x1, .int .u64 x2, .int .u64 x3])) w = .ok true w := by
  rw [eq_dig]; simp
theorem eq_digF (w : World) (x0 x1 x2 x3 y0 y1 y2 y3 : Int) (h : ¬ (x0 = y0 ∧ x1 = y1 ∧ x2 = y2 ∧ x3 = y3)) :
    Sem.run Tryz.prog (Op.equalIn 9999 155 (.agg #[.int .u64 x0, .int .u64 x1, .int .u64 x2, .int .u64 x3]) (.agg #[.int .u64 y0, .int .u64 y1, .int .u64 y2, .int .u64 y3])) w = .ok false w := by
  rw [eq_dig]
  have : (x0 == y0 && (x1 == y1 && (x2 == y2 && x3 == y3))) = false := by simpa using h
  rw [this]

/-- The number that lies in a block of four digits. -/
def cellI (W : World) (B o : Nat) : Int := match W.cell? ⟨B, o, none⟩ with | some v => intOf v | none => 0
def bigAt (W : World) (B : Nat) : Nat := (cellI W B 0 + cellI W B 1 * 4294967296 + cellI W B 2 * 18446744073709551616 + cellI W B 3 * 79228162514264337593543950336).toNat
theorem Blk.big {W : World} {B : Nat} {x : Int} (h : Blk W B (g0 x) (g1 x) (g2 x) (g3 x)) (h0 : 0 ≤ x) (h1 : x < 340282366920938463463374607431768211456) : bigAt W B = x.toNat := by
  obtain ⟨c0, c1, c2, c3, -, -, -, -⟩ := h
  have e := g_sum x h0 h1
  simp only [bigAt, cellI, c0, c1, c2, c3, intOf]
  rw [← e]

theorem g_zero : g0 0 = 0 ∧ g1 0 = 0 ∧ g2 0 = 0 ∧ g3 0 = 0 := by decide
theorem g_pos (x : Int) (h0 : 0 ≤ x) (h1 : x < 340282366920938463463374607431768211456) (h : x ≠ 0) : ¬ (g0 x = 0 ∧ g1 x = 0 ∧ g2 x = 0 ∧ g3 x = 0) := by
  unfold g0 g1 g2 g3; omega
theorem Blk.fresh {W : World} {T : TypeId} {x0 x1 x2 x3 : Int} : Blk (W.alloc (.cells #[.int .u64 x0, .int .u64 x1, .int .u64 x2, .int .u64 x3] T)) W.heap.size x0 x1 x2 x3 := by
  constructor <;> simp (maxDischargeDepth := 12) [go_sem]
theorem Blk.alloc {W : World} {B : Nat} {O : Obj} {x0 x1 x2 x3 : Int} (h : Blk W B x0 x1 x2 x3) (hB : B < W.heap.size) : Blk (W.alloc O) B x0 x1 x2 x3 :=
  h.below (n := W.heap.size) ⟨rfl, rfl, rfl, by simp, fun k hk => Below.heap_alloc _ _ _ (by omega)⟩ hB

set_option maxRecDepth 100000 in
set_option maxHeartbeats 4000000 in
theorem rcommon_any (a b : Int) (w : World) (ha : 0 ≤ a) (ha' : a < 340282366920938463463374607431768211456) (hb : 0 ≤ b) (hb' : b ≤ 170141183460469231731687303715884105728) :
    Calls Tryz.prog 132 #[.agg #[.int .u64 (g0 a), .int .u64 (g1 a), .int .u64 (g2 a), .int .u64 (g3 a)], .agg #[.int .u64 (g0 b), .int .u64 (g1 b), .int .u64 (g2 b), .int .u64 (g3 b)]] w fun e w' => e = .returned (.agg #[.int .u64 (g0 (gc a b)), .int .u64 (g1 (gc a b)), .int .u64 (g2 (gc a b)), .int .u64 (g3 (gc a b))]) ∧ Below w.heap.size w w' := by
  go_enter Tryz.func132, Tryz.ntmps132
  go_wp2
  go_loopw [9] (fun _ wr => ∃ x y : Int, 0 ≤ x ∧ x < 340282366920938463463374607431768211456 ∧ 0 ≤ y ∧ y ≤ 170141183460469231731687303715884105728 ∧ Hid (gc x y = gc a b) ∧ Below w.heap.size w wr ∧ w.heap.size + 1 + 1 + 1 < wr.heap.size ∧ Blk wr (w.heap.size) (g0 (x)) (g1 (x)) (g2 (x)) (g3 (x)) ∧ Blk wr (w.heap.size + 1) (g0 (y)) (g1 (y)) (g2 (y)) (g3 (y)) ∧ Blk wr (w.heap.size + 1 + 1) (0) (0) (0) (0) ∧ Blk wr (w.heap.size + 1 + 1 + 1) (0) (0) (0) (0)) (fun _ wr => bigAt wr (w.heap.size + 1))
  case atStart =>
    refine ⟨a, b, ha, ha', hb, hb', rfl, by go_grown, by go_size, ?_, ?_, ?_, ?_⟩
    all_goals (constructor <;> simp (maxDischargeDepth := 12) [go_sem])
  case round =>
    obtain ⟨x, y, hx, hx', hy, hy', hg, hBw, hsz, kX, kY, kO, kN⟩ := hrel
    by_cases hy0 : y = 0
    · subst hy0
      have hgx : Hid (gc a b = x) := by rw [← hg.out]; exact gc_zero x hx
      clear hg
      obtain ⟨c0, c1, c2, c3, -, -, -, -⟩ := kY
      rw [g_zero.1] at c0
      rw [g_zero.2.1] at c1
      rw [g_zero.2.2.1] at c2
      rw [g_zero.2.2.2] at c3
      obtain ⟨n0, n1, n2, n3, -, -, -, -⟩ := kN
      have kO' := kO
      obtain ⟨o0, o1, o2, o3, o4, o5, o6, o7⟩ := kO
      obtain ⟨x0, x1, x2, x3, -, -, -, -⟩ := kX
      have he := eq_digT wr 0 0 0 0
      go_wp2
      have hB9 : Below w.heap.size w ((((wr.setCell ⟨w.heap.size + 1 + 1, 0, none⟩ (.int .u64 (g0 x))).setCell ⟨w.heap.size + 1 + 1, 1, none⟩ (.int .u64 (g1 x))).setCell ⟨w.heap.size + 1 + 1, 2, none⟩ (.int .u64 (g2 x))).setCell ⟨w.heap.size + 1 + 1, 3, none⟩ (.int .u64 (g3 x))) := (by repeat' (first | (with_reducible exact Below.refl _ _) | (with_reducible assumption) | (with_reducible refine bdrewN _ ?_) | (with_reducible refine Below.alloc ?_ ?_ _) | (with_reducible refine Below.setCell ?_ ?_ _) | (with_reducible refine Below.drew ?_) | go_size | (simp; omega)))
      have kO2 := kO'.four (g0 x) (g1 x) (g2 x) (g3 x)
      generalize World.setCell _ _ _ = W9 at hB9 kO2 ⊢
      obtain ⟨v0, v1, v2, v3, -, -, -, -⟩ := kO2
      refine bodyPost_ret (by simp [results, Tryz.results132, go_sem, v0, v1, v2, v3]; try rfl) rfl ?_
      exact ⟨ret_big (by rw [hgx.out]) (by rw [hgx.out]) (by rw [hgx.out]) (by rw [hgx.out]), hB9⟩
    · have hd := g_pos y hy (by omega) hy0
      have he := eq_digF wr _ _ _ _ 0 0 0 0 hd
      clear hd
      have kX' : Hid (Blk wr (w.heap.size) (g0 x) (g1 x) (g2 x) (g3 x)) := kX
      have kY' : Hid (Blk wr (w.heap.size + 1) (g0 y) (g1 y) (g2 y) (g3 y)) := kY
      have kO' : Hid (Blk wr (w.heap.size + 1 + 1) 0 0 0 0) := kO
      have kN' : Hid (Blk wr (w.heap.size + 1 + 1 + 1) 0 0 0 0) := kN
      clear kO
      obtain ⟨x0, x1, x2, x3, -, -, -, -⟩ := kX
      obtain ⟨y0, y1, y2, y3, -, -, -, -⟩ := kY
      obtain ⟨n0, n1, n2, n3, -, -, -, -⟩ := kN
      go_wp2_with fail
      refine (rdiv_any x y _ hx hx' (by omega) hy').mono ?_
      rintro e w1 ⟨rfl, hb1⟩
      have hs1 := hb1.size
      have u0 := kX'.out.below hb1 (by omega)
      have u1 := kY'.out.below hb1 (by omega)
      have u2 := kO'.out.below hb1 (by omega)
      have u3 := kN'.out.below hb1 (by omega)
      have hB1 := hBw.trans (hb1.mono hBw.size)
      have hsz1 : w.heap.size + 1 + 1 + 1 < w1.heap.size := by omega
      have U : Hid (Blk w1 (w.heap.size) (g0 x) (g1 x) (g2 x) (g3 x) ∧ Blk w1 (w.heap.size + 1) (g0 y) (g1 y) (g2 y) (g3 y) ∧ Blk w1 (w.heap.size + 1 + 1) 0 0 0 0 ∧ Blk w1 (w.heap.size + 1 + 1 + 1) 0 0 0 0) := ⟨u0, u1, u2, u3⟩
      clear u2 u3 kX' hb1 hs1 hBw hsz x0 x1 x2 x3 y0 y1 y2 y3 n0 n1 n2 n3 he
      clear u0 u1
      go_upto_region 4 with fail
      refine wp_world ?_
      intro W1 hW1
      obtain ⟨u0, u1, u2, u3⟩ := U.out
      have v0 : Blk W1 (w.heap.size) (g0 x) (g1 x) (g2 x) (g3 x) := by rw [hW1]; exact (u0.alloc (by omega)).alloc (by simp; omega)
      have v1 : Blk W1 (w.heap.size + 1) (g0 y) (g1 y) (g2 y) (g3 y) := by rw [hW1]; exact (u1.alloc (by omega)).alloc (by simp; omega)
      have v2 : Blk W1 (w.heap.size + 1 + 1) 0 0 0 0 := by rw [hW1]; exact (u2.alloc (by omega)).alloc (by simp; omega)
      have v3 : Blk W1 (w.heap.size + 1 + 1 + 1) 0 0 0 0 := by rw [hW1]; exact (u3.alloc (by omega)).alloc (by simp; omega)
      have v4 : Blk W1 (w1.heap.size + 1) (g0 (x % y)) (g1 (x % y)) (g2 (x % y)) (g3 (x % y)) := by
        rw [hW1]; have := Blk.fresh (W := w1.alloc (.cells #[.int .u64 (g0 (x / y)), .int .u64 (g1 (x / y)), .int .u64 (g2 (x / y)), .int .u64 (g3 (x / y))] 157)) (T := 157) (x0 := g0 (x % y)) (x1 := g1 (x % y)) (x2 := g2 (x % y)) (x3 := g3 (x % y))
        simpa using this
      have hB2 : Below w.heap.size w W1 := by rw [hW1]; exact (by repeat' (first | (with_reducible exact Below.refl _ _) | (with_reducible assumption) | (with_reducible refine bdrewN _ ?_) | (with_reducible refine Below.alloc ?_ ?_ _) | (with_reducible refine Below.setCell ?_ ?_ _) | (with_reducible refine Below.drew ?_) | go_size | (simp; omega)))
      have hs2 : w.heap.size + 1 + 1 + 1 < W1.heap.size := by rw [hW1]; simp; omega
      clear hW1 u0 u1 u2 u3 U hB1
      have V : Hid (Blk W1 (w.heap.size) (g0 x) (g1 x) (g2 x) (g3 x) ∧ Blk W1 (w.heap.size + 1) (g0 y) (g1 y) (g2 y) (g3 y) ∧ Blk W1 (w.heap.size + 1 + 1) 0 0 0 0 ∧ Blk W1 (w.heap.size + 1 + 1 + 1) 0 0 0 0) := ⟨v0, v1, v2, v3⟩
      clear v2 v3
      have hne1 : w1.heap.size + 1 ≠ w.heap.size := by omega
      have hne2 : w1.heap.size + 1 ≠ w.heap.size + 1 := by omega
      obtain ⟨x0, x1, x2, x3, x4, x5, x6, x7⟩ := v0
      obtain ⟨y0, y1, y2, y3, y4, y5, y6, y7⟩ := v1
      obtain ⟨r0, r1, r2, r3, -, -, -, -⟩ := v4
      go_wp2
      obtain ⟨u0, u1, u2, u3⟩ := V.out
      have m0 := Int.emod_nonneg x hy0
      have m1 := Int.emod_lt_of_pos x (show 0 < y by omega)
      refine ⟨⟨y, x % y, hy, by omega, m0, by omega, (gc_step x y hx (by omega)).trans hg.out, (by repeat' (first | (with_reducible exact Below.refl _ _) | (with_reducible assumption) | (with_reducible refine bdrewN _ ?_) | (with_reducible refine Below.alloc ?_ ?_ _) | (with_reducible refine Below.setCell ?_ ?_ _) | (with_reducible refine Below.drew ?_) | go_size | (simp; omega))), by simp; omega, ?_, ?_, ?_, ?_⟩, ?_⟩
      · exact (u0.four _ _ _ _).other4 (by omega)
      · exact (u1.other4 (B := w.heap.size) (by omega)).four _ _ _ _
      · exact (u2.other4 (by omega)).other4 (by omega)
      · exact (u3.other4 (by omega)).other4 (by omega)
      refine Nat.lt_of_le_of_lt (Nat.le_of_eq (Blk.big (x := x % y) ((u1.other4 (B := w.heap.size) (by omega)).four _ _ _ _) m0 (by omega))) ?_
      rw [kY'.out.big hy (by omega)]
      omega

end Go.Proofs.YtfajjphfjilpnaaGreat

namespace Go.Proofs.YtfajjphfjilpnaaGreat
open Go.RowKit

/-- A block of two numbers, which may be written. -/
structure Blk2 (W : World) (B : Nat) (v0 v1 : Int) : Prop where
  c0 : W.cell? ⟨B, 0, none⟩ = some (.int .i64 v0)
  c1 : W.cell? ⟨B, 1, none⟩ = some (.int .i64 v1)
  f0 : W.frozen? ⟨B, 0, none⟩ = false
  f1 : W.frozen? ⟨B, 1, none⟩ = false
theorem Blk2.below {W W' : World} {B n : Nat} {v0 v1 : Int} (h : Blk2 W B v0 v1) (hb : Below n W W') (hB : B < n) : Blk2 W' B v0 v1 :=
  ⟨(hb.cell (p := ⟨B, 0, none⟩) hB).trans h.c0, (hb.cell (p := ⟨B, 1, none⟩) hB).trans h.c1, (hb.frozen (p := ⟨B, 0, none⟩) hB).trans h.f0, (hb.frozen (p := ⟨B, 1, none⟩) hB).trans h.f1⟩
theorem Blk2.two {W : World} {B : Nat} {v0 v1 : Int} (h : Blk2 W B v0 v1) (x0 x1 : Int) : Blk2 ((W.setCell ⟨B, 0, none⟩ (.int .i64 x0)).setCell ⟨B, 1, none⟩ (.int .i64 x1)) B x0 x1 := by
  obtain ⟨c0, c1, f0, f1⟩ := h
  constructor <;> simp (maxDischargeDepth := 12) [go_sem, c0, c1, f0, f1]
theorem gc_part (n d : Int) (hn : 0 ≤ n) (hd : 0 < d) : 0 < gc n d ∧ gc n d ≤ d ∧ 0 ≤ n / gc n d ∧ n / gc n d ≤ n ∧ 0 < d / gc n d ∧ d / gc n d ≤ d ∧ (0 < n → 0 < n / gc n d) := by
  have h1 := gc_pos n d hd
  have h2 := gc_le n d hd
  have pos : ∀ m, 0 < m → gc n d ∣ m → 0 < m / gc n d := by
    intro m hm hk
    obtain ⟨c, hc⟩ := hk
    have hc0 : 0 < c := by
      rcases Int.lt_or_le 0 c with h | h
      · exact h
      · have := Int.mul_le_mul_of_nonneg_left h (Int.le_of_lt h1); omega
    have e : m / gc n d = c := by
      have : m / gc n d = gc n d * c / gc n d := congrArg (· / gc n d) hc
      rw [this, Int.mul_ediv_cancel_left _ (by omega)]
    omega
  exact ⟨h1, h2, Int.ediv_nonneg hn (by omega), div_le_self n _ hn h1, pos d hd (gc_dvd_right n d (by omega)), div_le_self d _ (by omega) h1, fun h => pos n h (gc_dvd_left n d hn)⟩

theorem low64 (x : Int) (h0 : 0 ≤ x) (h1 : x ≤ 18446744073709551615) : g1 x * 4294967296 + g0 x = x := by unfold g0 g1; omega

set_option maxRecDepth 100000 in
set_option maxHeartbeats 8000000 in
theorem rmade_raw (b : Bool) (n d G P Q c1 c2 N D E : Int) (w : World) (hn : 0 ≤ n) (hn' : n ≤ 170141183460469231731687303715884105728) (hd : 0 < d) (hd' : d ≤ 170141183460469231731687303715884105728)
    (eG : Hid (gc n d = G)) (eP : Hid (n / G = P)) (eQ : Hid (d / G = Q)) (hG : 0 < G) (hG' : G ≤ d) (hP : 0 ≤ P) (hP' : P ≤ n) (hQ : 0 < Q) (hQ' : Q ≤ d) (e1 : Hid (cmpI P 9223372036854775808 = c1)) (e2 : Hid (cmpI Q 9223372036854775808 = c2))
    (hcase : (0 ≤ c2 ∧ N = 0 ∧ D = 0 ∧ E = 10) ∨ (c2 < 0 ∧ 0 < c1 ∧ N = 0 ∧ D = 0 ∧ E = 10) ∨ (c2 < 0 ∧ c1 = 0 ∧ b = false ∧ N = 0 ∧ D = 0 ∧ E = 10) ∨ (c2 < 0 ∧ c1 = 0 ∧ b = true ∧ 0 < P ∧ P ≤ 9223372036854775808 ∧ Q < 9223372036854775808 ∧ N = -P ∧ D = Q ∧ E = 0) ∨ (c2 < 0 ∧ c1 < 0 ∧ b = false ∧ P < 9223372036854775808 ∧ Q < 9223372036854775808 ∧ N = P ∧ D = Q ∧ E = 0) ∨ (c2 < 0 ∧ c1 < 0 ∧ b = true ∧ 0 < P ∧ P < 9223372036854775808 ∧ Q < 9223372036854775808 ∧ N = -P ∧ D = Q ∧ E = 0)) :
    Calls Tryz.prog 129 #[.bool b, .agg #[.int .u64 (g0 n), .int .u64 (g1 n), .int .u64 (g2 n), .int .u64 (g3 n)], .agg #[.int .u64 (g0 d), .int .u64 (g1 d), .int .u64 (g2 d), .int .u64 (g3 d)]] w fun e w' => e = .returned (.tuple #[.agg #[.int .i64 N, .int .i64 D], .int .i64 E]) ∧ Below w.heap.size w w' := by
  go_enter Tryz.func129, Tryz.ntmps129
  go_upto_region 1 with fail
  refine wp_world ?_
  intro W0 hW0
  have hs0 : w.heap.size + 1 + 1 < W0.heap.size := by rw [hW0]; simp
  have bN : Blk W0 (w.heap.size) (g0 (n)) (g1 (n)) (g2 (n)) (g3 (n)) := by rw [hW0]; constructor <;> simp (maxDischargeDepth := 12) [go_sem]
  have bD : Blk W0 (w.heap.size + 1) (g0 (d)) (g1 (d)) (g2 (d)) (g3 (d)) := by rw [hW0]; constructor <;> simp (maxDischargeDepth := 12) [go_sem]
  have bR : Blk2 W0 (w.heap.size + 1 + 1) 0 0 := by rw [hW0]; constructor <;> simp (maxDischargeDepth := 12) [go_sem]
  have hB0 : Below w.heap.size w W0 := by rw [hW0]; exact (by repeat' (first | (with_reducible exact Below.refl _ _) | (with_reducible assumption) | (with_reducible refine bdrewN _ ?_) | (with_reducible refine Below.alloc ?_ ?_ _) | (with_reducible refine Below.setCell ?_ ?_ _) | (with_reducible refine Below.drew ?_) | go_size | (simp; omega)))
  clear hW0
  have HbN : Hid (Blk W0 (w.heap.size) (g0 (n)) (g1 (n)) (g2 (n)) (g3 (n))) := bN
  have HbD : Hid (Blk W0 (w.heap.size + 1) (g0 (d)) (g1 (d)) (g2 (d)) (g3 (d))) := bD
  have HbR : Hid (Blk2 W0 (w.heap.size + 1 + 1) (0) (0)) := bR
  clear bN bD bR
  obtain ⟨bD_0, bD_1, bD_2, bD_3, -, -, -, -⟩ := HbD.out
  obtain ⟨bN_0, bN_1, bN_2, bN_3, -, -, -, -⟩ := HbN.out
  go_wp2_with fail
  refine (rcommon_any n d _ hn (by omega) (by omega) hd').mono ?_
  rintro e w1 ⟨rfl, hb1⟩
  have hz1 := hb1.size
  clear bD_0 bD_1 bD_2 bD_3
  clear bN_0 bN_1 bN_2 bN_3
  rw [eG.out]
  go_upto_region 2 with fail
  refine wp_world ?_
  intro W1 hW1
  have hst1 : Below W0.heap.size W0 W1 := by rw [hW1]; exact (by repeat' (first | (with_reducible exact Below.refl _ _) | (with_reducible assumption) | (with_reducible refine bdrewN _ ?_) | (with_reducible refine Below.alloc ?_ ?_ _) | (with_reducible refine Below.setCell ?_ ?_ _) | (with_reducible refine Below.drew ?_) | go_size | (simp; omega)))
  have hB1 : Below w.heap.size w W1 := hB0.trans (hst1.mono hB0.size)
  have hs1 : w.heap.size + 1 + 1 < W1.heap.size := by have := hst1.size; omega
  have bN : Blk W1 (w.heap.size) (g0 (n)) (g1 (n)) (g2 (n)) (g3 (n)) := HbN.out.below hst1 (by omega)
  have bD : Blk W1 (w.heap.size + 1) (g0 (d)) (g1 (d)) (g2 (d)) (g3 (d)) := HbD.out.below hst1 (by omega)
  have bR : Blk2 W1 (w.heap.size + 1 + 1) (0) (0) := HbR.out.below hst1 (by omega)
  have bG : Blk W1 (w1.heap.size) (g0 (G)) (g1 (G)) (g2 (G)) (g3 (G)) := by rw [hW1]; constructor <;> simp (maxDischargeDepth := 12) [go_sem]
  have hl_bG : w1.heap.size < W1.heap.size := by rw [hW1]; first | (simp; done) | (simp; omega)
  clear hW1 hst1 hb1 hB0 hs0 hz1 HbN HbD HbR
  have HbN : Hid (Blk W1 (w.heap.size) (g0 (n)) (g1 (n)) (g2 (n)) (g3 (n))) := bN
  have HbD : Hid (Blk W1 (w.heap.size + 1) (g0 (d)) (g1 (d)) (g2 (d)) (g3 (d))) := bD
  have HbR : Hid (Blk2 W1 (w.heap.size + 1 + 1) (0) (0)) := bR
  have HbG : Hid (Blk W1 (w1.heap.size) (g0 (G)) (g1 (G)) (g2 (G)) (g3 (G))) := bG
  clear bN bD bR bG
  obtain ⟨bG_0, bG_1, bG_2, bG_3, -, -, -, -⟩ := HbG.out
  obtain ⟨bN_0, bN_1, bN_2, bN_3, -, -, -, -⟩ := HbN.out
  go_wp2_with fail
  refine (rdiv_any n G _ hn (by omega) hG (by omega)).mono ?_
  rintro e w2 ⟨rfl, hb2⟩
  have hz2 := hb2.size
  clear bG_0 bG_1 bG_2 bG_3
  clear bN_0 bN_1 bN_2 bN_3
  rw [eP.out]
  go_upto_region 3 with fail
  refine wp_world ?_
  intro W2 hW2
  have hst2 : Below W1.heap.size W1 W2 := by rw [hW2]; exact (by repeat' (first | (with_reducible exact Below.refl _ _) | (with_reducible assumption) | (with_reducible refine bdrewN _ ?_) | (with_reducible refine Below.alloc ?_ ?_ _) | (with_reducible refine Below.setCell ?_ ?_ _) | (with_reducible refine Below.drew ?_) | go_size | (simp; omega)))
  have hB2 : Below w.heap.size w W2 := hB1.trans (hst2.mono hB1.size)
  have hs2 : w.heap.size + 1 + 1 < W2.heap.size := by have := hst2.size; omega
  have bN : Blk W2 (w.heap.size) (g0 (n)) (g1 (n)) (g2 (n)) (g3 (n)) := HbN.out.below hst2 (by omega)
  have bD : Blk W2 (w.heap.size + 1) (g0 (d)) (g1 (d)) (g2 (d)) (g3 (d)) := HbD.out.below hst2 (by omega)
  have bR : Blk2 W2 (w.heap.size + 1 + 1) (0) (0) := HbR.out.below hst2 (by omega)
  have bG : Blk W2 (w1.heap.size) (g0 (G)) (g1 (G)) (g2 (G)) (g3 (G)) := HbG.out.below hst2 (by omega)
  have bP : Blk W2 (w2.heap.size) (g0 (P)) (g1 (P)) (g2 (P)) (g3 (P)) := by rw [hW2]; constructor <;> simp (maxDischargeDepth := 12) [go_sem]
  have hl_bP : w2.heap.size < W2.heap.size := by rw [hW2]; first | (simp; done) | (simp; omega)
  have bX : Blk W2 (w2.heap.size + 1) (g0 (n % G)) (g1 (n % G)) (g2 (n % G)) (g3 (n % G)) := by rw [hW2]; constructor <;> simp (maxDischargeDepth := 12) [go_sem]
  have hl_bX : w2.heap.size + 1 < W2.heap.size := by rw [hW2]; first | (simp; done) | (simp; omega)
  have hl_bG : w1.heap.size < W2.heap.size := by have := hst2.size; omega
  clear hW2 hst2 hb2 hB1 hs1 hz2 HbN HbD HbR HbG
  have HbN : Hid (Blk W2 (w.heap.size) (g0 (n)) (g1 (n)) (g2 (n)) (g3 (n))) := bN
  have HbD : Hid (Blk W2 (w.heap.size + 1) (g0 (d)) (g1 (d)) (g2 (d)) (g3 (d))) := bD
  have HbR : Hid (Blk2 W2 (w.heap.size + 1 + 1) (0) (0)) := bR
  have HbG : Hid (Blk W2 (w1.heap.size) (g0 (G)) (g1 (G)) (g2 (G)) (g3 (G))) := bG
  have HbP : Hid (Blk W2 (w2.heap.size) (g0 (P)) (g1 (P)) (g2 (P)) (g3 (P))) := bP
  have HbX : Hid (Blk W2 (w2.heap.size + 1) (g0 (n % G)) (g1 (n % G)) (g2 (n % G)) (g3 (n % G))) := bX
  clear bN bD bR bG bP bX
  obtain ⟨bD_0, bD_1, bD_2, bD_3, -, -, -, -⟩ := HbD.out
  obtain ⟨bG_0, bG_1, bG_2, bG_3, -, -, -, -⟩ := HbG.out
  go_wp2_with fail
  refine (rdiv_any d G _ (by omega) (by omega) hG (by omega)).mono ?_
  rintro e w3 ⟨rfl, hb3⟩
  have hz3 := hb3.size
  clear bD_0 bD_1 bD_2 bD_3
  clear bG_0 bG_1 bG_2 bG_3
  rw [eQ.out]
  go_upto_region 4 with fail
  refine wp_world ?_
  intro W3 hW3
  have hst3 : Below W2.heap.size W2 W3 := by rw [hW3]; exact (by repeat' (first | (with_reducible exact Below.refl _ _) | (with_reducible assumption) | (with_reducible refine bdrewN _ ?_) | (with_reducible refine Below.alloc ?_ ?_ _) | (with_reducible refine Below.setCell ?_ ?_ _) | (with_reducible refine Below.drew ?_) | go_size | (simp; omega)))
  have hB3 : Below w.heap.size w W3 := hB2.trans (hst3.mono hB2.size)
  have hs3 : w.heap.size + 1 + 1 < W3.heap.size := by have := hst3.size; omega
  have bN : Blk W3 (w.heap.size) (g0 (n)) (g1 (n)) (g2 (n)) (g3 (n)) := HbN.out.below hst3 (by omega)
  have bD : Blk W3 (w.heap.size + 1) (g0 (d)) (g1 (d)) (g2 (d)) (g3 (d)) := HbD.out.below hst3 (by omega)
  have bR : Blk2 W3 (w.heap.size + 1 + 1) (0) (0) := HbR.out.below hst3 (by omega)
  have bG : Blk W3 (w1.heap.size) (g0 (G)) (g1 (G)) (g2 (G)) (g3 (G)) := HbG.out.below hst3 (by omega)
  have bP : Blk W3 (w2.heap.size) (g0 (P)) (g1 (P)) (g2 (P)) (g3 (P)) := HbP.out.below hst3 (by omega)
  have bX : Blk W3 (w2.heap.size + 1) (g0 (n % G)) (g1 (n % G)) (g2 (n % G)) (g3 (n % G)) := HbX.out.below hst3 (by omega)
  have bQ : Blk W3 (w3.heap.size) (g0 (Q)) (g1 (Q)) (g2 (Q)) (g3 (Q)) := by rw [hW3]; constructor <;> simp (maxDischargeDepth := 12) [go_sem]
  have hl_bQ : w3.heap.size < W3.heap.size := by rw [hW3]; first | (simp; done) | (simp; omega)
  have bY : Blk W3 (w3.heap.size + 1) (g0 (d % G)) (g1 (d % G)) (g2 (d % G)) (g3 (d % G)) := by rw [hW3]; constructor <;> simp (maxDischargeDepth := 12) [go_sem]
  have hl_bY : w3.heap.size + 1 < W3.heap.size := by rw [hW3]; first | (simp; done) | (simp; omega)
  have hl_bG : w1.heap.size < W3.heap.size := by have := hst3.size; omega
  have hl_bP : w2.heap.size < W3.heap.size := by have := hst3.size; omega
  have hl_bX : w2.heap.size + 1 < W3.heap.size := by have := hst3.size; omega
  clear hW3 hst3 hb3 hB2 hs2 hz3 HbN HbD HbR HbG HbP HbX
  have HbN : Hid (Blk W3 (w.heap.size) (g0 (n)) (g1 (n)) (g2 (n)) (g3 (n))) := bN
  have HbD : Hid (Blk W3 (w.heap.size + 1) (g0 (d)) (g1 (d)) (g2 (d)) (g3 (d))) := bD
  have HbR : Hid (Blk2 W3 (w.heap.size + 1 + 1) (0) (0)) := bR
  have HbG : Hid (Blk W3 (w1.heap.size) (g0 (G)) (g1 (G)) (g2 (G)) (g3 (G))) := bG
  have HbP : Hid (Blk W3 (w2.heap.size) (g0 (P)) (g1 (P)) (g2 (P)) (g3 (P))) := bP
  have HbX : Hid (Blk W3 (w2.heap.size + 1) (g0 (n % G)) (g1 (n % G)) (g2 (n % G)) (g3 (n % G))) := bX
  have HbQ : Hid (Blk W3 (w3.heap.size) (g0 (Q)) (g1 (Q)) (g2 (Q)) (g3 (Q))) := bQ
  have HbY : Hid (Blk W3 (w3.heap.size + 1) (g0 (d % G)) (g1 (d % G)) (g2 (d % G)) (g3 (d % G))) := bY
  clear bN bD bR bG bP bX bQ bY
  go_wp2_with fail
  refine (rof_any 9223372036854775808 _ (by omega) (by omega)).mono ?_
  rintro e w4 ⟨rfl, hb4⟩
  have hz4 := hb4.size
  go_upto_region 5 with fail
  refine wp_world ?_
  intro W4 hW4
  have hst4 : Below W3.heap.size W3 W4 := by rw [hW4]; exact (by repeat' (first | (with_reducible exact Below.refl _ _) | (with_reducible assumption) | (with_reducible refine bdrewN _ ?_) | (with_reducible refine Below.alloc ?_ ?_ _) | (with_reducible refine Below.setCell ?_ ?_ _) | (with_reducible refine Below.drew ?_) | go_size | (simp; omega)))
  have hB4 : Below w.heap.size w W4 := hB3.trans (hst4.mono hB3.size)
  have hs4 : w.heap.size + 1 + 1 < W4.heap.size := by have := hst4.size; omega
  have bN : Blk W4 (w.heap.size) (g0 (n)) (g1 (n)) (g2 (n)) (g3 (n)) := HbN.out.below hst4 (by omega)
  have bD : Blk W4 (w.heap.size + 1) (g0 (d)) (g1 (d)) (g2 (d)) (g3 (d)) := HbD.out.below hst4 (by omega)
  have bR : Blk2 W4 (w.heap.size + 1 + 1) (0) (0) := HbR.out.below hst4 (by omega)
  have bG : Blk W4 (w1.heap.size) (g0 (G)) (g1 (G)) (g2 (G)) (g3 (G)) := HbG.out.below hst4 (by omega)
  have bP : Blk W4 (w2.heap.size) (g0 (P)) (g1 (P)) (g2 (P)) (g3 (P)) := HbP.out.below hst4 (by omega)
  have bX : Blk W4 (w2.heap.size + 1) (g0 (n % G)) (g1 (n % G)) (g2 (n % G)) (g3 (n % G)) := HbX.out.below hst4 (by omega)
  have bQ : Blk W4 (w3.heap.size) (g0 (Q)) (g1 (Q)) (g2 (Q)) (g3 (Q)) := HbQ.out.below hst4 (by omega)
  have bY : Blk W4 (w3.heap.size + 1) (g0 (d % G)) (g1 (d % G)) (g2 (d % G)) (g3 (d % G)) := HbY.out.below hst4 (by omega)
  have bM : Blk W4 (w4.heap.size) (g0 (9223372036854775808)) (g1 (9223372036854775808)) (g2 (9223372036854775808)) (g3 (9223372036854775808)) := by rw [hW4]; constructor <;> simp (maxDischargeDepth := 12) [go_sem]
  have hl_bM : w4.heap.size < W4.heap.size := by rw [hW4]; first | (simp; done) | (simp; omega)
  have hl_bG : w1.heap.size < W4.heap.size := by have := hst4.size; omega
  have hl_bP : w2.heap.size < W4.heap.size := by have := hst4.size; omega
  have hl_bX : w2.heap.size + 1 < W4.heap.size := by have := hst4.size; omega
  have hl_bQ : w3.heap.size < W4.heap.size := by have := hst4.size; omega
  have hl_bY : w3.heap.size + 1 < W4.heap.size := by have := hst4.size; omega
  clear hW4 hst4 hb4 hB3 hs3 hz4 HbN HbD HbR HbG HbP HbX HbQ HbY
  have HbN : Hid (Blk W4 (w.heap.size) (g0 (n)) (g1 (n)) (g2 (n)) (g3 (n))) := bN
  have HbD : Hid (Blk W4 (w.heap.size + 1) (g0 (d)) (g1 (d)) (g2 (d)) (g3 (d))) := bD
  have HbR : Hid (Blk2 W4 (w.heap.size + 1 + 1) (0) (0)) := bR
  have HbG : Hid (Blk W4 (w1.heap.size) (g0 (G)) (g1 (G)) (g2 (G)) (g3 (G))) := bG
  have HbP : Hid (Blk W4 (w2.heap.size) (g0 (P)) (g1 (P)) (g2 (P)) (g3 (P))) := bP
  have HbX : Hid (Blk W4 (w2.heap.size + 1) (g0 (n % G)) (g1 (n % G)) (g2 (n % G)) (g3 (n % G))) := bX
  have HbQ : Hid (Blk W4 (w3.heap.size) (g0 (Q)) (g1 (Q)) (g2 (Q)) (g3 (Q))) := bQ
  have HbY : Hid (Blk W4 (w3.heap.size + 1) (g0 (d % G)) (g1 (d % G)) (g2 (d % G)) (g3 (d % G))) := bY
  have HbM : Hid (Blk W4 (w4.heap.size) (g0 (9223372036854775808)) (g1 (9223372036854775808)) (g2 (9223372036854775808)) (g3 (9223372036854775808))) := bM
  clear bN bD bR bG bP bX bQ bY bM
  obtain ⟨bM_0, bM_1, bM_2, bM_3, -, -, -, -⟩ := HbM.out
  obtain ⟨bP_0, bP_1, bP_2, bP_3, -, -, -, -⟩ := HbP.out
  go_wp2_with fail
  refine (rcompare_any P 9223372036854775808 _ hP (by omega) (by omega) (by omega)).mono ?_
  rintro e w5 ⟨rfl, hb5⟩
  have hz5 := hb5.size
  clear bM_0 bM_1 bM_2 bM_3
  clear bP_0 bP_1 bP_2 bP_3
  rw [e1.out]
  go_upto_region 6 with fail
  refine wp_world ?_
  intro W5 hW5
  have hst5 : Below W4.heap.size W4 W5 := by rw [hW5]; exact (by repeat' (first | (with_reducible exact Below.refl _ _) | (with_reducible assumption) | (with_reducible refine bdrewN _ ?_) | (with_reducible refine Below.alloc ?_ ?_ _) | (with_reducible refine Below.setCell ?_ ?_ _) | (with_reducible refine Below.drew ?_) | go_size | (simp; omega)))
  have hB5 : Below w.heap.size w W5 := hB4.trans (hst5.mono hB4.size)
  have hs5 : w.heap.size + 1 + 1 < W5.heap.size := by have := hst5.size; omega
  have bN : Blk W5 (w.heap.size) (g0 (n)) (g1 (n)) (g2 (n)) (g3 (n)) := HbN.out.below hst5 (by omega)
  have bD : Blk W5 (w.heap.size + 1) (g0 (d)) (g1 (d)) (g2 (d)) (g3 (d)) := HbD.out.below hst5 (by omega)
  have bR : Blk2 W5 (w.heap.size + 1 + 1) (0) (0) := HbR.out.below hst5 (by omega)
  have bG : Blk W5 (w1.heap.size) (g0 (G)) (g1 (G)) (g2 (G)) (g3 (G)) := HbG.out.below hst5 (by omega)
  have bP : Blk W5 (w2.heap.size) (g0 (P)) (g1 (P)) (g2 (P)) (g3 (P)) := HbP.out.below hst5 (by omega)
  have bX : Blk W5 (w2.heap.size + 1) (g0 (n % G)) (g1 (n % G)) (g2 (n % G)) (g3 (n % G)) := HbX.out.below hst5 (by omega)
  have bQ : Blk W5 (w3.heap.size) (g0 (Q)) (g1 (Q)) (g2 (Q)) (g3 (Q)) := HbQ.out.below hst5 (by omega)
  have bY : Blk W5 (w3.heap.size + 1) (g0 (d % G)) (g1 (d % G)) (g2 (d % G)) (g3 (d % G)) := HbY.out.below hst5 (by omega)
  have bM : Blk W5 (w4.heap.size) (g0 (9223372036854775808)) (g1 (9223372036854775808)) (g2 (9223372036854775808)) (g3 (9223372036854775808)) := HbM.out.below hst5 (by omega)
  have hl_bG : w1.heap.size < W5.heap.size := by have := hst5.size; omega
  have hl_bP : w2.heap.size < W5.heap.size := by have := hst5.size; omega
  have hl_bX : w2.heap.size + 1 < W5.heap.size := by have := hst5.size; omega
  have hl_bQ : w3.heap.size < W5.heap.size := by have := hst5.size; omega
  have hl_bY : w3.heap.size + 1 < W5.heap.size := by have := hst5.size; omega
  have hl_bM : w4.heap.size < W5.heap.size := by have := hst5.size; omega
  clear hW5 hst5 hb5 hB4 hs4 hz5 HbN HbD HbR HbG HbP HbX HbQ HbY HbM
  have HbN : Hid (Blk W5 (w.heap.size) (g0 (n)) (g1 (n)) (g2 (n)) (g3 (n))) := bN
  have HbD : Hid (Blk W5 (w.heap.size + 1) (g0 (d)) (g1 (d)) (g2 (d)) (g3 (d))) := bD
  have HbR : Hid (Blk2 W5 (w.heap.size + 1 + 1) (0) (0)) := bR
  have HbG : Hid (Blk W5 (w1.heap.size) (g0 (G)) (g1 (G)) (g2 (G)) (g3 (G))) := bG
  have HbP : Hid (Blk W5 (w2.heap.size) (g0 (P)) (g1 (P)) (g2 (P)) (g3 (P))) := bP
  have HbX : Hid (Blk W5 (w2.heap.size + 1) (g0 (n % G)) (g1 (n % G)) (g2 (n % G)) (g3 (n % G))) := bX
  have HbQ : Hid (Blk W5 (w3.heap.size) (g0 (Q)) (g1 (Q)) (g2 (Q)) (g3 (Q))) := bQ
  have HbY : Hid (Blk W5 (w3.heap.size + 1) (g0 (d % G)) (g1 (d % G)) (g2 (d % G)) (g3 (d % G))) := bY
  have HbM : Hid (Blk W5 (w4.heap.size) (g0 (9223372036854775808)) (g1 (9223372036854775808)) (g2 (9223372036854775808)) (g3 (9223372036854775808))) := bM
  clear bN bD bR bG bP bX bQ bY bM
  obtain ⟨bM_0, bM_1, bM_2, bM_3, -, -, -, -⟩ := HbM.out
  obtain ⟨bQ_0, bQ_1, bQ_2, bQ_3, -, -, -, -⟩ := HbQ.out
  go_wp2_with fail
  refine (rcompare_any Q 9223372036854775808 _ (by omega) (by omega) (by omega) (by omega)).mono ?_
  rintro e w6 ⟨rfl, hb6⟩
  have hz6 := hb6.size
  clear bM_0 bM_1 bM_2 bM_3
  clear bQ_0 bQ_1 bQ_2 bQ_3
  rw [e2.out]
  go_upto_region 7 with fail
  refine wp_world ?_
  intro W6 hW6
  have hst6 : Below W5.heap.size W5 W6 := by rw [hW6]; exact (by repeat' (first | (with_reducible exact Below.refl _ _) | (with_reducible assumption) | (with_reducible refine bdrewN _ ?_) | (with_reducible refine Below.alloc ?_ ?_ _) | (with_reducible refine Below.setCell ?_ ?_ _) | (with_reducible refine Below.drew ?_) | go_size | (simp; omega)))
  have hB6 : Below w.heap.size w W6 := hB5.trans (hst6.mono hB5.size)
  have hs6 : w.heap.size + 1 + 1 < W6.heap.size := by have := hst6.size; omega
  have bN : Blk W6 (w.heap.size) (g0 (n)) (g1 (n)) (g2 (n)) (g3 (n)) := HbN.out.below hst6 (by omega)
  have bD : Blk W6 (w.heap.size + 1) (g0 (d)) (g1 (d)) (g2 (d)) (g3 (d)) := HbD.out.below hst6 (by omega)
  have bR : Blk2 W6 (w.heap.size + 1 + 1) (0) (0) := HbR.out.below hst6 (by omega)
  have bG : Blk W6 (w1.heap.size) (g0 (G)) (g1 (G)) (g2 (G)) (g3 (G)) := HbG.out.below hst6 (by omega)
  have bP : Blk W6 (w2.heap.size) (g0 (P)) (g1 (P)) (g2 (P)) (g3 (P)) := HbP.out.below hst6 (by omega)
  have bX : Blk W6 (w2.heap.size + 1) (g0 (n % G)) (g1 (n % G)) (g2 (n % G)) (g3 (n % G)) := HbX.out.below hst6 (by omega)
  have bQ : Blk W6 (w3.heap.size) (g0 (Q)) (g1 (Q)) (g2 (Q)) (g3 (Q)) := HbQ.out.below hst6 (by omega)
  have bY : Blk W6 (w3.heap.size + 1) (g0 (d % G)) (g1 (d % G)) (g2 (d % G)) (g3 (d % G)) := HbY.out.below hst6 (by omega)
  have bM : Blk W6 (w4.heap.size) (g0 (9223372036854775808)) (g1 (9223372036854775808)) (g2 (9223372036854775808)) (g3 (9223372036854775808)) := HbM.out.below hst6 (by omega)
  have hl_bG : w1.heap.size < W6.heap.size := by have := hst6.size; omega
  have hl_bP : w2.heap.size < W6.heap.size := by have := hst6.size; omega
  have hl_bX : w2.heap.size + 1 < W6.heap.size := by have := hst6.size; omega
  have hl_bQ : w3.heap.size < W6.heap.size := by have := hst6.size; omega
  have hl_bY : w3.heap.size + 1 < W6.heap.size := by have := hst6.size; omega
  have hl_bM : w4.heap.size < W6.heap.size := by have := hst6.size; omega
  clear hW6 hst6 hb6 hB5 hs5 hz6 HbN HbD HbR HbG HbP HbX HbQ HbY HbM
  have bRR : Hid (Blk2 W6 (w.heap.size + 1 + 1) 0 0) := bR
  obtain ⟨bR0, bR1, bR2, bR3⟩ := bR
  obtain ⟨bP0, bP1, bP2, bP3, -, -, -, -⟩ := bP
  obtain ⟨bQ0, bQ1, bQ2, bQ3, -, -, -, -⟩ := bQ
  have zP0 := g0_bd P; have zP1 := g1_bd P; have zQ0 := g0_bd Q; have zQ1 := g1_bd Q
  clear bN bD bG bX bY bM
  rcases hcase with ⟨h2, rfl, rfl, rfl⟩ | ⟨h2, h1, rfl, rfl, rfl⟩ | ⟨h2, rfl, rfl, rfl, rfl, rfl⟩ | ⟨h2, rfl, rfl, hP3, hP2, hQ2, hN, hD, rfl⟩ | ⟨h2, h1, rfl, hP2, hQ2, hN, hD, rfl⟩ | ⟨h2, h1, rfl, hP3, hP2, hQ2, hN, hD, rfl⟩
  · skip
    go_wp2
    generalize hW9 : World.setCell _ _ _ = W9
    have b9 := bRR.out.two (0) (0)
    rw [hW9] at b9
    have hB9 : Below w.heap.size w W9 := by rw [← hW9]; exact (by repeat' (first | (with_reducible exact Below.refl _ _) | (with_reducible assumption) | (with_reducible refine bdrewN _ ?_) | (with_reducible refine Below.alloc ?_ ?_ _) | (with_reducible refine Below.setCell ?_ ?_ _) | (with_reducible refine Below.drew ?_) | go_size | (simp; omega)))
    clear hW9
    obtain ⟨x0, x1, -, -⟩ := b9
    refine bodyPost_ret (by simp [results, Tryz.results129, go_sem, x0, x1]; try rfl) rfl ?_
    exact ⟨rfl, hB9⟩
  · have h2f : (0 ≤ c2) = False := by simp; omega
    go_wp2
    generalize hW9 : World.setCell _ _ _ = W9
    have b9 := bRR.out.two (0) (0)
    rw [hW9] at b9
    have hB9 : Below w.heap.size w W9 := by rw [← hW9]; exact (by repeat' (first | (with_reducible exact Below.refl _ _) | (with_reducible assumption) | (with_reducible refine bdrewN _ ?_) | (with_reducible refine Below.alloc ?_ ?_ _) | (with_reducible refine Below.setCell ?_ ?_ _) | (with_reducible refine Below.drew ?_) | go_size | (simp; omega)))
    clear hW9
    obtain ⟨x0, x1, -, -⟩ := b9
    refine bodyPost_ret (by simp [results, Tryz.results129, go_sem, x0, x1]; try rfl) rfl ?_
    exact ⟨rfl, hB9⟩
  · have h2f : (0 ≤ c2) = False := by simp; omega
    go_wp2
    generalize hW9 : World.setCell _ _ _ = W9
    have b9 := bRR.out.two (0) (0)
    rw [hW9] at b9
    have hB9 : Below w.heap.size w W9 := by rw [← hW9]; exact (by repeat' (first | (with_reducible exact Below.refl _ _) | (with_reducible assumption) | (with_reducible refine bdrewN _ ?_) | (with_reducible refine Below.alloc ?_ ?_ _) | (with_reducible refine Below.setCell ?_ ?_ _) | (with_reducible refine Below.drew ?_) | go_size | (simp; omega)))
    clear hW9
    obtain ⟨x0, x1, -, -⟩ := b9
    refine bodyPost_ret (by simp [results, Tryz.results129, go_sem, x0, x1]; try rfl) rfl ?_
    exact ⟨rfl, hB9⟩
  · have hN : Hid (N = _) := hN
    have hD : Hid (D = Q) := hD
    have h2f : (0 ≤ c2) = False := by simp; omega
    have xP := low64 P (by omega) (by omega)
    have xQ := low64 Q (by omega) (by omega)
    go_wp2
    generalize hW9 : World.setCell _ _ _ = W9
    have b9 := bRR.out.two (-(P - 1) - 1) (Q)
    rw [hW9] at b9
    have hB9 : Below w.heap.size w W9 := by rw [← hW9]; exact (by repeat' (first | (with_reducible exact Below.refl _ _) | (with_reducible assumption) | (with_reducible refine bdrewN _ ?_) | (with_reducible refine Below.alloc ?_ ?_ _) | (with_reducible refine Below.setCell ?_ ?_ _) | (with_reducible refine Below.drew ?_) | go_size | (simp; omega)))
    clear hW9
    obtain ⟨x0, x1, -, -⟩ := b9
    refine bodyPost_ret (by simp [results, Tryz.results129, go_sem, x0, x1]; try rfl) rfl ?_
    exact ⟨ret_frac (by rw [hN.out]; omega) (by rw [hD.out]) rfl, hB9⟩
  · have hN : Hid (N = _) := hN
    have hD : Hid (D = Q) := hD
    have h2f : (0 ≤ c2) = False := by simp; omega
    have h1f : (0 < c1) = False := by simp; omega
    have h1e : (c1 = 0) = False := by simp; omega
    have h1b : (c1 == 0) = false := by simp; omega
    have xP := low64 P (by omega) (by omega)
    have xQ := low64 Q (by omega) (by omega)
    go_wp2
    generalize hW9 : World.setCell _ _ _ = W9
    have b9 := bRR.out.two (P) (Q)
    rw [hW9] at b9
    have hB9 : Below w.heap.size w W9 := by rw [← hW9]; exact (by repeat' (first | (with_reducible exact Below.refl _ _) | (with_reducible assumption) | (with_reducible refine bdrewN _ ?_) | (with_reducible refine Below.alloc ?_ ?_ _) | (with_reducible refine Below.setCell ?_ ?_ _) | (with_reducible refine Below.drew ?_) | go_size | (simp; omega)))
    clear hW9
    obtain ⟨x0, x1, -, -⟩ := b9
    refine bodyPost_ret (by simp [results, Tryz.results129, go_sem, x0, x1]; try rfl) rfl ?_
    exact ⟨ret_frac (by rw [hN.out]) (by rw [hD.out]) rfl, hB9⟩
  · have hN : Hid (N = _) := hN
    have hD : Hid (D = Q) := hD
    have h2f : (0 ≤ c2) = False := by simp; omega
    have h1f : (0 < c1) = False := by simp; omega
    have h1e : (c1 = 0) = False := by simp; omega
    have h1b : (c1 == 0) = false := by simp; omega
    have xP := low64 P (by omega) (by omega)
    have xQ := low64 Q (by omega) (by omega)
    go_wp2
    generalize hW9 : World.setCell _ _ _ = W9
    have b9 := bRR.out.two (-(P - 1) - 1) (Q)
    rw [hW9] at b9
    have hB9 : Below w.heap.size w W9 := by rw [← hW9]; exact (by repeat' (first | (with_reducible exact Below.refl _ _) | (with_reducible assumption) | (with_reducible refine bdrewN _ ?_) | (with_reducible refine Below.alloc ?_ ?_ _) | (with_reducible refine Below.setCell ?_ ?_ _) | (with_reducible refine Below.drew ?_) | go_size | (simp; omega)))
    clear hW9
    obtain ⟨x0, x1, -, -⟩ := b9
    refine bodyPost_ret (by simp [results, Tryz.results129, go_sem, x0, x1]; try rfl) rfl ?_
    exact ⟨ret_frac (by rw [hN.out]; omega) (by rw [hD.out]) rfl, hB9⟩

theorem rmade_any (b : Bool) (n d : Int) (w : World) (hn : 0 ≤ n) (hn' : n ≤ 170141183460469231731687303715884105728) (hd : 0 < d) (hd' : d ≤ 170141183460469231731687303715884105728) (hbn : b = true → 0 < n) :
    Calls Tryz.prog 129 #[.bool b, .agg #[.int .u64 (g0 n), .int .u64 (g1 n), .int .u64 (g2 n), .int .u64 (g3 n)], .agg #[.int .u64 (g0 d), .int .u64 (g1 d), .int .u64 (g2 d), .int .u64 (g3 d)]] w fun e w' => e = .returned (.tuple #[.agg #[.int .i64 (outN (sg b (n / gc n d)) (d / gc n d)), .int .i64 (outD (sg b (n / gc n d)) (d / gc n d))], .int .i64 (outE (sg b (n / gc n d)) (d / gc n d))]) ∧ Below w.heap.size w w' := by
  obtain ⟨q1, q2, q3, q4, q5, q6, q7⟩ := gc_part n d hn hd
  refine rmade_raw b n d (gc n d) (n / gc n d) (d / gc n d) _ _ _ _ _ w hn hn' hd hd' rfl rfl rfl q1 q2 q3 q4 q5 q6 rfl rfl ?_
  generalize n / gc n d = P at *
  generalize d / gc n d = Q at *
  unfold cmpI
  cases b
  · by_cases a1 : P ≤ 9223372036854775807 ∧ Q ≤ 9223372036854775807
    · obtain ⟨e1, e2, e3⟩ := out_yes (p := P) (q := Q) (by omega) a1.1 a1.2
      have e1' : outN (sg false P) Q = P := e1
      have e2' : outD (sg false P) Q = Q := e2
      have e3' : outE (sg false P) Q = 0 := e3
      rw [e1', e2', e3', if_pos (show P < 9223372036854775808 by omega), if_pos (show Q < 9223372036854775808 by omega)]
      simp; omega
    · obtain ⟨e1, e2, e3⟩ := out_no (p := P) (q := Q) (by omega)
      have e1' : outN (sg false P) Q = 0 := e1
      have e2' : outD (sg false P) Q = 0 := e2
      have e3' : outE (sg false P) Q = 10 := e3
      rw [e1', e2', e3']
      split <;> split <;> (try split) <;> (try split) <;> simp <;> omega
  · have hp := q7 (hbn rfl)
    by_cases a1 : P ≤ 9223372036854775808 ∧ Q ≤ 9223372036854775807
    · obtain ⟨e1, e2, e3⟩ := out_yes (p := -P) (q := Q) (by omega) (by omega) a1.2
      have e1' : outN (sg true P) Q = -P := e1
      have e2' : outD (sg true P) Q = Q := e2
      have e3' : outE (sg true P) Q = 0 := e3
      rw [e1', e2', e3', if_pos (show Q < 9223372036854775808 by omega)]
      split <;> (try split) <;> simp <;> omega
    · obtain ⟨e1, e2, e3⟩ := out_no (p := -P) (q := Q) (by omega)
      have e1' : outN (sg true P) Q = 0 := e1
      have e2' : outD (sg true P) Q = 0 := e2
      have e3' : outE (sg true P) Q = 10 := e3
      rw [e1', e2', e3']
      split <;> split <;> (try split) <;> (try split) <;> simp <;> omega

end Go.Proofs.YtfajjphfjilpnaaGreat

namespace Go.Proofs.YtfajjphfjilpnaaGreat
open Go.RowKit

set_option maxHeartbeats 400000 in
theorem rof_ex (n : Int) (w : World) (h1 : 0 ≤ n) (h2 : n ≤ 18446744073709551615) :
    Calls Tryz.prog 127 #[.int .u64 n] w fun e w' => e = .returned (.agg #[.int .u64 (g0 n), .int .u64 (g1 n), .int .u64 0, .int .u64 0]) ∧ ∃ c1 c2 : Array Value, w' = (w.alloc (.cells c1 157)).alloc (.cells c2 157) := by
  go_enter Tryz.func127, Tryz.ntmps127
  go_wp2
  go_returns
  exact ⟨ret_big (by unfold g0; rfl) (by unfold g1; omega) rfl rfl, _, _, rfl⟩


end Go.Proofs.YtfajjphfjilpnaaGreat

namespace Go.Proofs.YtfajjphfjilpnaaGreat
open Go.RowKit

/-- What made tells, as the least form of a number by its sign and size. -/
theorem rmade_r (b : Bool) (n d : Int) (w : World) (hn : 0 ≤ n) (hn' : n ≤ 170141183460469231731687303715884105728) (hd : 0 < d) (hd' : d ≤ 170141183460469231731687303715884105728) (hbn : b = true → 0 < n) :
    Calls Tryz.prog 129 #[.bool b, .agg #[.int .u64 (g0 n), .int .u64 (g1 n), .int .u64 (g2 n), .int .u64 (g3 n)], .agg #[.int .u64 (g0 d), .int .u64 (g1 d), .int .u64 (g2 d), .int .u64 (g3 d)]] w fun e w' => e = .returned (.tuple #[.agg #[.int .i64 (rN (sg b n) d), .int .i64 (rD (sg b n) d)], .int .i64 (rE (sg b n) d)]) ∧ Below w.heap.size w w' := by
  have h := rmade_any b n d w hn hn' hd hd' hbn
  have e1 := sg_div b n (gc n d) (gc_dvd_left n d hn)
  have e2 : sz (sg b n) = n := by rw [sz_sg, sz_of_nonneg hn]
  unfold rN rD rE
  rw [e2, ← e1]
  exact h

set_option maxHeartbeats 400000 in
theorem rOf_zero (n : Int) (w : World) :
    Calls Tryz.prog 119 #[.int .i64 n, .int .i64 0] w fun e w' => e = .returned (.tuple #[.agg #[.int .i64 0, .int .i64 0], .int .i64 11]) ∧ Below w.heap.size w w' := by
  go_enter Tryz.func119, Tryz.ntmps119
  go_wp2
  go_returns
  exact ⟨rfl, by go_grown⟩

theorem rof_exg (n : Int) (w : World) (h1 : 0 ≤ n) (h2 : n ≤ 18446744073709551615) :
    Calls Tryz.prog 127 #[.int .u64 n] w fun e w' => e = .returned (.agg #[.int .u64 (g0 n), .int .u64 (g1 n), .int .u64 (g2 n), .int .u64 (g3 n)]) ∧ ∃ c1 c2 : Array Value, w' = (w.alloc (.cells c1 157)).alloc (.cells c2 157) := by
  have e2 : g2 n = 0 := by unfold g2; omega
  have e3 : g3 n = 0 := by unfold g3; omega
  rw [e2, e3]; exact rof_ex n w h1 h2

set_option maxRecDepth 100000 in
set_option maxHeartbeats 1000000 in
theorem rOf_raw (b : Bool) (n d : Int) (w : World) (h1 : -9223372036854775808 ≤ n) (h2 : n ≤ 9223372036854775807) (k1 : -9223372036854775808 ≤ d) (k2 : d ≤ 9223372036854775807) (hd : (d == 0) = false) (z1 : 0 ≤ sz n) (z2 : sz n ≤ 9223372036854775808) (z3 : 0 < sz d) (z4 : sz d ≤ 9223372036854775808) (hbn : b = true → 0 < sz n)
    (hc : (n = 0 ∧ b = false) ∨ ((n != 0) = true ∧ b = (decide (n < 0) != decide (d < 0)))) :
    Calls Tryz.prog 119 #[.int .i64 n, .int .i64 d] w fun e w' => e = .returned (.tuple #[.agg #[.int .i64 (rN (sg b (sz n)) (sz d)), .int .i64 (rD (sg b (sz n)) (sz d))], .int .i64 (rE (sg b (sz n)) (sz d))]) ∧ Below w.heap.size w w' := by
  have HM : Hid (∀ W : World, Calls Tryz.prog 129 #[.bool b, .agg #[.int .u64 (g0 (sz n)), .int .u64 (g1 (sz n)), .int .u64 (g2 (sz n)), .int .u64 (g3 (sz n))], .agg #[.int .u64 (g0 (sz d)), .int .u64 (g1 (sz d)), .int .u64 (g2 (sz d)), .int .u64 (g3 (sz d))]] W fun e w' => e = .returned (.tuple #[.agg #[.int .i64 (rN (sg b (sz n)) (sz d)), .int .i64 (rD (sg b (sz n)) (sz d))], .int .i64 (rE (sg b (sz n)) (sz d))]) ∧ Below W.heap.size W w') :=
    fun W => rmade_r b (sz n) (sz d) W z1 (by omega) z3 (by omega) hbn
  clear hbn
  rcases hc with ⟨hn, hb⟩ | ⟨hn, hb⟩
  · subst hn; subst hb
    go_enter Tryz.func119, Tryz.ntmps119
    go_wp2_with (first
      | (go_at_call 128; refine (rsize_any _ _ (by omega) (by omega)).mono ?_; rintro e w' ⟨rfl, rfl⟩)
      | (go_at_call 127; refine (rof_exg _ _ (by omega) (by omega)).mono ?_; rintro e w' ⟨rfl, c1, c2, rfl⟩)
      | (go_at_call 129; refine (HM.out _).mono ?_; rintro e w3 ⟨rfl, hb⟩; obtain ⟨hc, hf, hz, hB⟩ := bf (w := w) (by go_grown) hb; have bR : Hid (Blk2 w3 (w.heap.size) 0 0) := Blk2.below (by constructor <;> simp (maxDischargeDepth := 12) [go_sem]) hb (by go_size)))
    generalize hW9 : World.setCell _ _ _ = W9
    have b9 := bR.out.two (rN (sg false (sz 0)) (sz d)) (rD (sg false (sz 0)) (sz d))
    rw [hW9] at b9
    have hB9 : Below w.heap.size w W9 := by rw [← hW9]; exact Below.setCell (Below.setCell hB (by simp) _) (by simp) _
    clear hW9 hc hf hz hB hb bR
    obtain ⟨x0, x1, -, -⟩ := b9
    refine bodyPost_ret (by simp [results, Tryz.results119, go_sem, x0, x1]; try rfl) rfl ?_
    exact ⟨rfl, hB9⟩
  · have hb' : b = !(decide (n < 0) == decide (d < 0)) := hb
    subst hb'
    clear hb
    go_enter Tryz.func119, Tryz.ntmps119
    go_wp2_with (first
      | (go_at_call 128; refine (rsize_any _ _ (by omega) (by omega)).mono ?_; rintro e w' ⟨rfl, rfl⟩)
      | (go_at_call 127; refine (rof_exg _ _ (by omega) (by omega)).mono ?_; rintro e w' ⟨rfl, c1, c2, rfl⟩)
      | (go_at_call 129; refine (HM.out _).mono ?_; rintro e w3 ⟨rfl, hb⟩; obtain ⟨hc, hf, hz, hB⟩ := bf (w := w) (by go_grown) hb; have bR : Hid (Blk2 w3 (w.heap.size) 0 0) := Blk2.below (by constructor <;> simp (maxDischargeDepth := 12) [go_sem]) hb (by go_size)))
    generalize hW9 : World.setCell _ _ _ = W9
    have b9 := bR.out.two (rN (sg (!(decide (n < 0) == decide (d < 0))) (sz n)) (sz d)) (rD (sg (!(decide (n < 0) == decide (d < 0))) (sz n)) (sz d))
    rw [hW9] at b9
    have hB9 : Below w.heap.size w W9 := by rw [← hW9]; exact Below.setCell (Below.setCell hB (by simp) _) (by simp) _
    clear hW9 hc hf hz hB hb bR
    obtain ⟨x0, x1, -, -⟩ := b9
    refine bodyPost_ret (by simp [results, Tryz.results119, go_sem, x0, x1]; try rfl) rfl ?_
    exact ⟨rfl, hB9⟩

theorem rOf_all (n d : Int) (w : World) (h1 : -9223372036854775808 ≤ n) (h2 : n ≤ 9223372036854775807) (k1 : -9223372036854775808 ≤ d) (k2 : d ≤ 9223372036854775807) :
    Calls Tryz.prog 119 #[.int .i64 n, .int .i64 d] w fun e w' => e = .returned (.tuple #[.agg #[.int .i64 (oN n d), .int .i64 (oD n d)], .int .i64 (oE n d)]) ∧ Below w.heap.size w w' := by
  unfold oN oD oE
  by_cases h : d = 0
  · subst h; simpa using rOf_zero n w
  · rw [if_neg h, if_neg h, if_neg h]
    have z3 : 0 < sz d := by unfold sz; omega
    by_cases hn : n = 0
    · have e : ofP n d = sg false (sz n) := by subst hn; unfold ofP sg sz; simp
      rw [e]
      exact rOf_raw false n d w h1 h2 k1 k2 (by simpa using h) (sz_nonneg n) (sz_le h1 h2) z3 (sz_le k1 k2) (by simp) (Or.inl ⟨hn, rfl⟩)
    · have e : ofP n d = sg (decide (n < 0) != decide (d < 0)) (sz n) := (sg_sz n (decide (d < 0))).symm
      rw [e]
      exact rOf_raw _ n d w h1 h2 k1 k2 (by simpa using h) (sz_nonneg n) (sz_le h1 h2) z3 (sz_le k1 k2) (fun _ => by unfold sz; omega) (Or.inr ⟨by simpa using hn, rfl⟩)

theorem may_neg {n d : Int} (h : d ≤ 0) : mayB n d = false := by
  cases e : mayB n d
  · rfl
  · have := (may_of e).1; omega

set_option maxHeartbeats 400000 in
theorem rmay_any (n d : Int) (w : World) (h1 : -9223372036854775808 ≤ n) (h2 : n ≤ 9223372036854775807) (g1 : -9223372036854775808 ≤ d) (g2 : d ≤ 9223372036854775807) :
    Calls Tryz.prog 98 #[.agg #[.int .i64 n, .int .i64 d]] w fun e w' => e = .returned (.bool (mayB n d)) ∧ Below w.heap.size w w' := by
  by_cases hd : d ≤ 0
  · rw [may_neg hd]
    go_enter Tryz.func98, Tryz.ntmps98
    go_wp2
    go_ret
    exact ⟨rfl, by go_grown⟩
  · have hd2 : (d ≤ 0) = False := by simp; omega
    by_cases a1 : oE n d = 0
    · go_enter Tryz.func98, Tryz.ntmps98
      go_wp2_with (first
        | (go_at_call 119; refine (rOf_all _ _ _ h1 h2 g1 g2).mono ?_; rintro e w1 ⟨rfl, hb⟩; obtain ⟨hc, hf, hz, hB⟩ := bf (w := w) (by go_grown) hb; simp only [World.size_alloc] at hz; have z0 : w.heap.size < w1.heap.size := by omega))
      all_goals
        go_ret
        exact ⟨by simp [mayB, *], by go_grown⟩
    · have a2 : (oE n d == 0) = false := by simpa using a1
      go_enter Tryz.func98, Tryz.ntmps98
      go_wp2_with (first
        | (go_at_call 119; refine (rOf_all _ _ _ h1 h2 g1 g2).mono ?_; rintro e w1 ⟨rfl, hb⟩; obtain ⟨hc, hf, hz, hB⟩ := bf (w := w) (by go_grown) hb; simp only [World.size_alloc] at hz; have z0 : w.heap.size < w1.heap.size := by omega))
      all_goals
        go_ret
        exact ⟨by simp [mayB, a2], by go_grown⟩

end Go.Proofs.YtfajjphfjilpnaaGreat

namespace Go.Proofs.YtfajjphfjilpnaaGreat
open Go.RowKit Go.Shelf

theorem size_empty {s : ByteArray} (h : s.toList.isEmpty = true) : s.size = 0 := by
  rw [ByteArray.toList_eq] at h
  cases hl : s.data.toList with
  | nil =>
    have h3 : s.data.toList.length = 0 := by rw [hl]; rfl
    exact h3
  | cons a b => rw [hl] at h; exact Bool.noConfusion h

set_option maxRecDepth 100000 in
set_option maxHeartbeats 400000 in
theorem rfrac_any (k n d : Int) (s : ByteArray) (w : World) :
    Calls Tryz.prog 99 #[.agg #[.int .i64 k, .int .i64 n, .int .i64 d, .string s]] w fun e w' => e = .returned (.agg #[.int .i64 n, .int .i64 d]) ∧ Below w.heap.size w w' := by
  go_enter Tryz.func99, Tryz.ntmps99
  go_wp2
  go_returns
  exact ⟨rfl, by go_grown⟩

set_option maxRecDepth 100000 in
set_option maxHeartbeats 1000000 in
theorem rcheck_1 (n d : Int) (s : ByteArray) (w : World) :
    Calls Tryz.prog 85 #[.agg #[.int .i64 1, .int .i64 n, .int .i64 d, .string s]] w fun e w' => e = .returned (.int .i64 (chk 1 n d s)) ∧ Below w.heap.size w w' := by
  cases hd : d == 0
  · have e0 : chk 1 n d s = 20 := by simp [chk, pureB, hd]
    have d1 : ¬ d = 0 := by simpa using hd
    have d2 : (d != 0) = true := by simpa using d1
    rw [e0]
    go_enter Tryz.func85, Tryz.ntmps85
    go_wp2
    go_ret
    exact ⟨rfl, by go_grown⟩
  · have hd' : d = 0 := by simpa using hd
    subst hd'
    cases hs : s.toList.isEmpty
    · have e0 : chk 1 n 0 s = 20 := by simp [chk, pureB, hs]
      rw [e0]
      go_enter Tryz.func85, Tryz.ntmps85
      go_wp2
      go_ret
      exact ⟨rfl, by go_grown⟩
    · have e0 : chk 1 n 0 s = 0 := by have := size_empty hs; simp [chk, pureB, hs, this]
      rw [e0]
      go_enter Tryz.func85, Tryz.ntmps85
      go_wp2
      go_ret
      exact ⟨rfl, by go_grown⟩

set_option maxRecDepth 100000 in
set_option maxHeartbeats 1000000 in
theorem rcheck_2 (n d : Int) (s : ByteArray) (w : World) (h1 : -9223372036854775808 ≤ n) (h2 : n ≤ 9223372036854775807) (g1 : -9223372036854775808 ≤ d) (g2 : d ≤ 9223372036854775807) :
    Calls Tryz.prog 85 #[.agg #[.int .i64 2, .int .i64 n, .int .i64 d, .string s]] w fun e w' => e = .returned (.int .i64 (chk 2 n d s)) ∧ Below w.heap.size w w' := by
  cases hs : s.toList.isEmpty
  · have e0 : chk 2 n d s = 20 := by simp [chk, pureB, hs]
    rw [e0]
    go_enter Tryz.func85, Tryz.ntmps85
    go_wp2_with fail
    refine (rfrac_any 2 n d s _).mono ?_
    rintro e w1 ⟨rfl, hb1⟩
    go_wp2_with fail
    refine (rmay_any n d _ h1 h2 g1 g2).mono ?_
    rintro e w2 ⟨rfl, hb2⟩
    obtain ⟨hc, hf, hz, hB⟩ := bf (w := w) (by go_grown) (hb1.trans (hb2.mono hb1.size))
    simp only [World.size_alloc] at hz
    have z0 : w.heap.size < w2.heap.size := by omega
    go_wp2
    go_ret
    exact ⟨rfl, hB⟩
  · have z := size_empty hs
    cases hm : mayB n d
    · have e0 : chk 2 n d s = 20 := by simp [chk, pureB, hm]
      rw [e0]
      go_enter Tryz.func85, Tryz.ntmps85
      go_wp2_with fail
      refine (rfrac_any 2 n d s _).mono ?_
      rintro e w1 ⟨rfl, hb1⟩
      go_wp2_with fail
      refine (rmay_any n d _ h1 h2 g1 g2).mono ?_
      rintro e w2 ⟨rfl, hb2⟩
      obtain ⟨hc, hf, hz, hB⟩ := bf (w := w) (by go_grown) (hb1.trans (hb2.mono hb1.size))
      simp only [World.size_alloc] at hz
      have z0 : w.heap.size < w2.heap.size := by omega
      rw [hm]
      go_wp2
      go_ret
      exact ⟨rfl, hB⟩
    · have e0 : chk 2 n d s = 0 := by simp [chk, pureB, hm, hs, z]
      rw [e0]
      go_enter Tryz.func85, Tryz.ntmps85
      go_wp2_with fail
      refine (rfrac_any 2 n d s _).mono ?_
      rintro e w1 ⟨rfl, hb1⟩
      go_wp2_with fail
      refine (rmay_any n d _ h1 h2 g1 g2).mono ?_
      rintro e w2 ⟨rfl, hb2⟩
      obtain ⟨hc, hf, hz, hB⟩ := bf (w := w) (by go_grown) (hb1.trans (hb2.mono hb1.size))
      simp only [World.size_alloc] at hz
      have z0 : w.heap.size < w2.heap.size := by omega
      rw [hm]
      go_wp2
      go_ret
      exact ⟨rfl, hB⟩

set_option maxRecDepth 100000 in
set_option maxHeartbeats 1000000 in
theorem rcheck_3 (n d : Int) (s : ByteArray) (w : World) :
    Calls Tryz.prog 85 #[.agg #[.int .i64 3, .int .i64 n, .int .i64 d, .string s]] w fun e w' => e = .returned (.int .i64 (chk 3 n d s)) ∧ Below w.heap.size w w' := by
  cases hn : n == 0
  · have e0 : chk 3 n d s = 20 := by simp [chk, pureB, hn]
    have d1 : ¬ n = 0 := by simpa using hn
    have d2 : (n != 0) = true := by simpa using d1
    rw [e0]
    go_enter Tryz.func85, Tryz.ntmps85
    go_wp2
    go_ret
    exact ⟨rfl, by go_grown⟩
  · have hn' : n = 0 := by simpa using hn
    subst hn'
    cases hd : d == 0
    · have e0 : chk 3 0 d s = 20 := by simp [chk, pureB, hd]
      have d1 : ¬ d = 0 := by simpa using hd
      have d2 : (d != 0) = true := by simpa using d1
      rw [e0]
      go_enter Tryz.func85, Tryz.ntmps85
      go_wp2
      go_ret
      exact ⟨rfl, by go_grown⟩
    · have hd' : d = 0 := by simpa using hd
      subst hd'
      by_cases hl : 64 < s.size
      · have e0 : chk 3 0 0 s = 2 := by simp [chk, pureB, hl]
        rw [e0]
        have hl' : (64 : Int) < s.size := by omega
        go_enter Tryz.func85, Tryz.ntmps85
        go_wp2
        go_ret
        exact ⟨rfl, by go_grown⟩
      · have e0 : chk 3 0 0 s = 0 := by simp [chk, pureB, hl]
        rw [e0]
        have hl' : ((64 : Int) < s.size) = False := by simp; omega
        go_enter Tryz.func85, Tryz.ntmps85
        go_wp2
        go_ret
        exact ⟨rfl, by go_grown⟩

set_option maxRecDepth 100000 in
set_option maxHeartbeats 1000000 in
theorem rcheck_any (k n d : Int) (s : ByteArray) (w : World) (h1 : -9223372036854775808 ≤ n) (h2 : n ≤ 9223372036854775807) (g1 : -9223372036854775808 ≤ d) (g2 : d ≤ 9223372036854775807) :
    Calls Tryz.prog 85 #[.agg #[.int .i64 k, .int .i64 n, .int .i64 d, .string s]] w fun e w' => e = .returned (.int .i64 (chk k n d s)) ∧ Below w.heap.size w w' := by
  by_cases k1 : k = 1
  · subst k1; exact rcheck_1 n d s w
  · by_cases k2 : k = 2
    · subst k2; exact rcheck_2 n d s w h1 h2 g1 g2
    · by_cases k3 : k = 3
      · subst k3; exact rcheck_3 n d s w
      · have e0 : chk k n d s = 20 := by simp [chk, pureB, k1, k2, k3]
        rw [e0]
        have k1' : (k == 1) = false := by simpa using k1
        have k2' : (k == 2) = false := by simpa using k2
        have k3' : (k == 3) = false := by simpa using k3
        go_enter Tryz.func85, Tryz.ntmps85
        go_wp2
        go_ret
        exact ⟨rfl, by go_grown⟩

end Go.Proofs.YtfajjphfjilpnaaGreat

namespace Go.Proofs.YtfajjphfjilpnaaGreat
open Go.RowKit Go.Shelf

/-- Are two values the same? -/
def sameB (k n d : Int) (s : ByteArray) (k' n' d' : Int) (s' : ByteArray) : Bool := k == k' && (n == n' && (d == d' && s.toList == s'.toList))

set_option maxRecDepth 100000 in
set_option maxHeartbeats 1000000 in
theorem rsame_any (k n d : Int) (s : ByteArray) (k' n' d' : Int) (s' : ByteArray) (w : World) :
    Calls Tryz.prog 84 #[.agg #[.int .i64 k, .int .i64 n, .int .i64 d, .string s], .agg #[.int .i64 k', .int .i64 n', .int .i64 d', .string s']] w fun e w' => e = .returned (.bool (sameB k n d s k' n' d' s')) ∧ Below w.heap.size w w' := by
  by_cases hk : k = k'
  · subst hk
    by_cases hn : n = n'
    · subst hn
      by_cases hd : d = d'
      · subst hd
        go_enter Tryz.func84, Tryz.ntmps84
        go_wp2
        go_ret
        exact ⟨ret_bool (by simp [sameB]), by go_grown⟩
      · have e1 : (d == d') = false := by simpa using hd
        go_enter Tryz.func84, Tryz.ntmps84
        go_wp2
        go_ret
        exact ⟨ret_bool (by simp [sameB, hd]), by go_grown⟩
    · have e1 : (n == n') = false := by simpa using hn
      go_enter Tryz.func84, Tryz.ntmps84
      go_wp2
      go_ret
      exact ⟨ret_bool (by simp [sameB, hn]), by go_grown⟩
  · have e1 : (k == k') = false := by simpa using hk
    go_enter Tryz.func84, Tryz.ntmps84
    go_wp2
    go_ret
    exact ⟨ret_bool (by simp [sameB, hk]), by go_grown⟩

set_option maxRecDepth 100000 in
set_option maxHeartbeats 1000000 in
theorem vsame_any (k n d : Int) (s : ByteArray) (k' n' d' : Int) (s' : ByteArray) (w : World) :
    Calls Tryz.prog 86 #[.agg #[.int .i64 k, .int .i64 n, .int .i64 d, .string s], .agg #[.int .i64 k', .int .i64 n', .int .i64 d', .string s']] w fun e w' => e = .returned (.bool (sameB k n d s k' n' d' s')) ∧ Below w.heap.size w w' := by
  go_enter Tryz.func86, Tryz.ntmps86
  go_wp2
  all_goals
    go_ret
    exact ⟨ret_bool (by simp_all [sameB]), by go_grown⟩

end Go.Proofs.YtfajjphfjilpnaaGreat

namespace Go.Proofs.YtfajjphfjilpnaaGreat
open Go.RowKit Go.Shelf

end Go.Proofs.YtfajjphfjilpnaaGreat

namespace Go.Proofs.YtfajjphfjilpnaaGreat
open Go.RowKit Go.Shelf

end Go.Proofs.YtfajjphfjilpnaaGreat

namespace Go.Proofs.YtfajjphfjilpnaaGreat
open Go.RowKit Go.Shelf

end Go.Proofs.YtfajjphfjilpnaaGreat

namespace Go.Proofs.YtfajjphfjilpnaaGreat
open Go.RowKit Go.Shelf

end Go.Proofs.YtfajjphfjilpnaaGreat

namespace Go.Proofs.YtfajjphfjilpnaaGreat
open Go.RowKit Go.Shelf

end Go.Proofs.YtfajjphfjilpnaaGreat

namespace Go.Proofs.YtfajjphfjilpnaaGreat
open Go.RowKit Go.Shelf

end Go.Proofs.YtfajjphfjilpnaaGreat

namespace Go.Proofs.YtfajjphfjilpnaaGreat
open Go.RowKit Go.Shelf

end Go.Proofs.YtfajjphfjilpnaaGreat

namespace Go.Proofs.YtfajjphfjilpnaaGreat
open Go.RowKit Go.Shelf

end Go.Proofs.YtfajjphfjilpnaaGreat

namespace Go.Proofs.YtfajjphfjilpnaaGreat
open Go.RowKit Go.Shelf

end Go.Proofs.YtfajjphfjilpnaaGreat

namespace Go.Proofs.YtfajjphfjilpnaaGreat
open Go.RowKit Go.Shelf

end Go.Proofs.YtfajjphfjilpnaaGreat

namespace Go.Proofs.YtfajjphfjilpnaaGreat
open Go.RowKit Go.Shelf

end Go.Proofs.YtfajjphfjilpnaaGreat

namespace Go.Proofs.YtfajjphfjilpnaaGreat
open Go.RowKit Go.Shelf

end Go.Proofs.YtfajjphfjilpnaaGreat

namespace Go.Proofs.YtfajjphfjilpnaaGreat
open Go.RowKit Go.Shelf

end Go.Proofs.YtfajjphfjilpnaaGreat

namespace Go.Proofs.YtfajjphfjilpnaaGreat
open Go.RowKit Go.Shelf
set_option linter.unusedVariables false

end Go.Proofs.YtfajjphfjilpnaaGreat

namespace Go.Proofs.YtfajjphfjilpnaaGreat
open Go.RowKit Go.Shelf
set_option linter.unusedVariables false

/-- A value, as four plain things. -/
structure Val where
  k : Int
  n : Int
  d : Int
  s : ByteArray
/-- May a value be at all: its numbers fit 64 bits. -/
structure Val.Fits (x : Val) : Prop where
  n1 : -9223372036854775808 ≤ x.n
  n2 : x.n ≤ 9223372036854775807
  d1 : -9223372036854775808 ≤ x.d
  d2 : x.d ≤ 9223372036854775807
def Val.may (x : Val) : Int := chk x.k x.n x.d x.s
def Val.same (x y : Val) : Bool := sameB x.k x.n x.d x.s y.k y.n y.d y.s

end Go.Proofs.YtfajjphfjilpnaaGreat

namespace Go.Proofs.YtfajjphfjilpnaaGreat
open Go.RowKit Go.Shelf
set_option linter.unusedVariables false

end Go.Proofs.YtfajjphfjilpnaaGreat

namespace Go.Proofs.YtfajjphfjilpnaaGreat
open Go.RowKit LX Go.Shelf
set_option linter.unusedVariables false

/-- A term. -/
inductive Tm where
  | mk (k : Int) (nm : ByteArray) (v : Val) (subs : List Tm)
section
mutual
/-- A formula. -/
inductive Fm where
  | mk (k : Int) (nm : ByteArray) (op : Int) (vars : List ByteArray) (terms : List Tm) (lo : Int) (hi : Int) (opn : Bool) (subs : List Fm) (rgx : List Rx)
/-- A regex. -/
inductive Rx where
  | mk (k : Int) (test : List Fm) (subs : List Rx)
end
end
def Tm.k : Tm → Int | .mk k _ _ _ => k
def Tm.nm : Tm → ByteArray | .mk _ n _ _ => n
def Tm.v : Tm → Val | .mk _ _ v _ => v
def Tm.subs : Tm → List Tm | .mk _ _ _ s => s
def Fm.k : Fm → Int | .mk k _ _ _ _ _ _ _ _ _ => k
def Fm.nm : Fm → ByteArray | .mk _ n _ _ _ _ _ _ _ _ => n
def Fm.op : Fm → Int | .mk _ _ o _ _ _ _ _ _ _ => o
def Fm.vars : Fm → List ByteArray | .mk _ _ _ v _ _ _ _ _ _ => v
def Fm.terms : Fm → List Tm | .mk _ _ _ _ t _ _ _ _ _ => t
def Fm.lo : Fm → Int | .mk _ _ _ _ _ l _ _ _ _ => l
def Fm.hi : Fm → Int | .mk _ _ _ _ _ _ h _ _ _ => h
def Fm.opn : Fm → Bool | .mk _ _ _ _ _ _ _ o _ _ => o
def Fm.subs : Fm → List Fm | .mk _ _ _ _ _ _ _ _ s _ => s
def Fm.rgx : Fm → List Rx | .mk _ _ _ _ _ _ _ _ _ r => r
def Rx.k : Rx → Int | .mk k _ _ => k
def Rx.test : Rx → List Fm | .mk _ t _ => t
def Rx.subs : Rx → List Rx | .mk _ _ s => s
/-- What is within is smaller. -/
theorem Tm.subs_lt (t : Tm) : SizeOf.sizeOf t.subs < SizeOf.sizeOf t := by cases t; simp [Tm.subs]; omega
theorem Fm.subs_lt (f : Fm) : SizeOf.sizeOf f.subs < SizeOf.sizeOf f := by cases f; simp [Fm.subs]; omega
theorem Fm.rgx_lt (f : Fm) : SizeOf.sizeOf f.rgx < SizeOf.sizeOf f := by cases f; simp [Fm.rgx]; omega
theorem Rx.test_lt (r : Rx) : SizeOf.sizeOf r.test < SizeOf.sizeOf r := by cases r; simp [Rx.test]; omega
theorem Rx.subs_lt (r : Rx) : SizeOf.sizeOf r.subs < SizeOf.sizeOf r := by cases r; simp [Rx.subs]; omega
theorem mem_lt {α : Type} [SizeOf α] {l : List α} (i : Nat) (h : i < l.length) : SizeOf.sizeOf l[i] < SizeOf.sizeOf l := List.sizeOf_lt_of_mem (List.getElem_mem h)

/-- Texts where they lie. -/
def NmsAt (w : World) (v : Value) (vs : List ByteArray) : Prop := vs.length ≤ 9223372036854775807 ∧ ∃ p c, v = .slice p vs.length c ∧ vs.length ≤ c ∧ (vs = [] ∨ ∃ b off, p = some ⟨b, off, none⟩ ∧ b < w.heap.size ∧ ∀ i (h : i < vs.length), w.cell? ⟨b, off + i, none⟩ = some (.string vs[i]))
/-- A term's cells, its parts' slice apart. -/
def TmC (w : World) (b o : Nat) (t : Tm) (u : Value) : Prop := w.cell? ⟨b, o, none⟩ = some (.int .i64 t.k) ∧ w.cell? ⟨b, o + 1, none⟩ = some (.string t.nm) ∧ w.cell? ⟨b, o + 2, none⟩ = some (.int .i64 t.v.k) ∧ w.cell? ⟨b, o + 3, none⟩ = some (.int .i64 t.v.n) ∧ w.cell? ⟨b, o + 4, none⟩ = some (.int .i64 t.v.d) ∧ w.cell? ⟨b, o + 5, none⟩ = some (.string t.v.s) ∧ w.cell? ⟨b, o + 6, none⟩ = some u
inductive TmsAt (w : World) : Value → List Tm → Prop
  | nil {p : Option Addr} {c : Nat} : TmsAt w (.slice p 0 c) []
  | row {b off c : Nat} {ts : List Tm} (us : Nat → Value) (hl : ts.length ≤ 9223372036854775807) (fit : ∀ i (h : i < ts.length), ts[i].v.Fits) (hc : ts.length ≤ c) (hb : b < w.heap.size) (cells : ∀ i (h : i < ts.length), TmC w b (off + i * 7) ts[i] (us i)) (sub : ∀ i (h : i < ts.length), TmsAt w (us i) ts[i].subs) : TmsAt w (.slice (some ⟨b, off, none⟩) ts.length c) ts
/-- A formula's cells: its four slices apart. -/
def FmC (w : World) (b o : Nat) (f : Fm) (uv ut us ur : Value) : Prop := w.cell? ⟨b, o, none⟩ = some (.int .i64 f.k) ∧ w.cell? ⟨b, o + 1, none⟩ = some (.string f.nm) ∧ w.cell? ⟨b, o + 2, none⟩ = some (.int .i64 f.op) ∧ w.cell? ⟨b, o + 3, none⟩ = some uv ∧ w.cell? ⟨b, o + 4, none⟩ = some ut ∧ w.cell? ⟨b, o + 5, none⟩ = some (.int .i64 f.lo) ∧ w.cell? ⟨b, o + 6, none⟩ = some (.int .i64 f.hi) ∧ w.cell? ⟨b, o + 7, none⟩ = some (.bool f.opn) ∧ w.cell? ⟨b, o + 8, none⟩ = some us ∧ w.cell? ⟨b, o + 9, none⟩ = some ur
def RxC (w : World) (b o : Nat) (r : Rx) (ut us : Value) : Prop := w.cell? ⟨b, o, none⟩ = some (.int .i64 r.k) ∧ w.cell? ⟨b, o + 1, none⟩ = some ut ∧ w.cell? ⟨b, o + 2, none⟩ = some us
section
mutual
inductive FmsAt (w : World) : Value → List Fm → Prop
  | nil {p : Option Addr} {c : Nat} : FmsAt w (.slice p 0 c) []
  | row {b off c : Nat} {fs : List Fm} (uv ut us ur : Nat → Value) (hl : fs.length ≤ 9223372036854775807) (hc : fs.length ≤ c) (hb : b < w.heap.size) (cells : ∀ i (h : i < fs.length), FmC w b (off + i * 10) fs[i] (uv i) (ut i) (us i) (ur i)) (vars : ∀ i (h : i < fs.length), NmsAt w (uv i) fs[i].vars) (terms : ∀ i (h : i < fs.length), TmsAt w (ut i) fs[i].terms) (sub : ∀ i (h : i < fs.length), FmsAt w (us i) fs[i].subs) (rgx : ∀ i (h : i < fs.length), RxsAt w (ur i) fs[i].rgx) : FmsAt w (.slice (some ⟨b, off, none⟩) fs.length c) fs
inductive RxsAt (w : World) : Value → List Rx → Prop
  | nil {p : Option Addr} {c : Nat} : RxsAt w (.slice p 0 c) []
  | row {b off c : Nat} {rs : List Rx} (ut us : Nat → Value) (hl : rs.length ≤ 9223372036854775807) (hc : rs.length ≤ c) (hb : b < w.heap.size) (cells : ∀ i (h : i < rs.length), RxC w b (off + i * 3) rs[i] (ut i) (us i)) (test : ∀ i (h : i < rs.length), FmsAt w (ut i) rs[i].test) (sub : ∀ i (h : i < rs.length), RxsAt w (us i) rs[i].subs) : RxsAt w (.slice (some ⟨b, off, none⟩) rs.length c) rs
end
end
/-- One formula, as a value. -/
def FmAt (w : World) (v : Value) (f : Fm) : Prop := ∃ uv ut us ur, v = .agg #[.int .i64 f.k, .string f.nm, .int .i64 f.op, uv, ut, .int .i64 f.lo, .int .i64 f.hi, .bool f.opn, us, ur] ∧ NmsAt w uv f.vars ∧ TmsAt w ut f.terms ∧ FmsAt w us f.subs ∧ RxsAt w ur f.rgx
theorem NmsAt.below {w w' : World} {v : Value} {vs : List ByteArray} (h : NmsAt w v vs) (hb : Below w.heap.size w w') : NmsAt w' v vs := by
  obtain ⟨hl, p, c, e, hc, h | ⟨b, off, h1, h2, h3⟩⟩ := h
  · exact ⟨hl, p, c, e, hc, Or.inl h⟩
  · exact ⟨hl, p, c, e, hc, Or.inr ⟨b, off, h1, Nat.lt_of_lt_of_le h2 hb.size, fun i hi => (hb.cell (p := ⟨b, _, none⟩) h2).trans (h3 i hi)⟩⟩
theorem TmC.below {w w' : World} {b o : Nat} {t : Tm} {u : Value} (h : TmC w b o t u) (hb : Below w.heap.size w w') (hB : b < w.heap.size) : TmC w' b o t u := by
  obtain ⟨h0, h1, h2, h3, h4, h5, h6⟩ := h
  exact ⟨(hb.cell (p := ⟨b, _, none⟩) hB).trans h0, (hb.cell (p := ⟨b, _, none⟩) hB).trans h1, (hb.cell (p := ⟨b, _, none⟩) hB).trans h2, (hb.cell (p := ⟨b, _, none⟩) hB).trans h3, (hb.cell (p := ⟨b, _, none⟩) hB).trans h4, (hb.cell (p := ⟨b, _, none⟩) hB).trans h5, (hb.cell (p := ⟨b, _, none⟩) hB).trans h6⟩
theorem TmsAt.bel {w w' : World} {v : Value} {ts : List Tm} (h : TmsAt w v ts) (hb : Below w.heap.size w w') : TmsAt w' v ts := by
  induction h with
  | nil => exact .nil
  | row us hl fit hc hB cells sub ih => exact .row us hl fit hc (Nat.lt_of_lt_of_le hB hb.size) (fun i h => (cells i h).below hb hB) ih
theorem FmC.below {w w' : World} {b o : Nat} {f : Fm} {uv ut us ur : Value} (h : FmC w b o f uv ut us ur) (hb : Below w.heap.size w w') (hB : b < w.heap.size) : FmC w' b o f uv ut us ur := by
  obtain ⟨h0, h1, h2, h3, h4, h5, h6, h7, h8, h9⟩ := h
  exact ⟨(hb.cell (p := ⟨b, _, none⟩) hB).trans h0, (hb.cell (p := ⟨b, _, none⟩) hB).trans h1, (hb.cell (p := ⟨b, _, none⟩) hB).trans h2, (hb.cell (p := ⟨b, _, none⟩) hB).trans h3, (hb.cell (p := ⟨b, _, none⟩) hB).trans h4, (hb.cell (p := ⟨b, _, none⟩) hB).trans h5, (hb.cell (p := ⟨b, _, none⟩) hB).trans h6, (hb.cell (p := ⟨b, _, none⟩) hB).trans h7, (hb.cell (p := ⟨b, _, none⟩) hB).trans h8, (hb.cell (p := ⟨b, _, none⟩) hB).trans h9⟩
theorem RxC.below {w w' : World} {b o : Nat} {r : Rx} {ut us : Value} (h : RxC w b o r ut us) (hb : Below w.heap.size w w') (hB : b < w.heap.size) : RxC w' b o r ut us := by
  obtain ⟨h0, h1, h2⟩ := h
  exact ⟨(hb.cell (p := ⟨b, _, none⟩) hB).trans h0, (hb.cell (p := ⟨b, _, none⟩) hB).trans h1, (hb.cell (p := ⟨b, _, none⟩) hB).trans h2⟩
theorem both_below {w w' : World} (hb : Below w.heap.size w w') : ∀ n, (∀ (v : Value) (fs : List Fm), SizeOf.sizeOf fs ≤ n → FmsAt w v fs → FmsAt w' v fs) ∧ (∀ (v : Value) (rs : List Rx), SizeOf.sizeOf rs ≤ n → RxsAt w v rs → RxsAt w' v rs) := by
  intro n
  induction n with
  | zero =>
    refine ⟨fun v fs hn h => ?_, fun v rs hn h => ?_⟩
    · cases fs <;> simp at hn
    · cases rs <;> simp at hn
  | succ n ih =>
    refine ⟨fun v fs hn h => ?_, fun v rs hn h => ?_⟩
    · cases h with
      | nil => exact .nil
      | row uv ut us ur hl hc hB cells vars terms sub rgx =>
        exact .row uv ut us ur hl hc (Nat.lt_of_lt_of_le hB hb.size) (fun i h => (cells i h).below hb hB) (fun i h => (vars i h).below hb) (fun i h => (terms i h).bel hb)
          (fun i h => ih.1 _ _ (by have := mem_lt i h; have := Fm.subs_lt fs[i]; omega) (sub i h)) (fun i h => ih.2 _ _ (by have := mem_lt i h; have := Fm.rgx_lt fs[i]; omega) (rgx i h))
    · cases h with
      | nil => exact .nil
      | row ut us hl hc hB cells test sub =>
        exact .row ut us hl hc (Nat.lt_of_lt_of_le hB hb.size) (fun i h => (cells i h).below hb hB)
          (fun i h => ih.1 _ _ (by have := mem_lt i h; have := Rx.test_lt rs[i]; omega) (test i h)) (fun i h => ih.2 _ _ (by have := mem_lt i h; have := Rx.subs_lt rs[i]; omega) (sub i h))
theorem FmsAt.bel {w w' : World} {v : Value} {fs : List Fm} (h : FmsAt w v fs) (hb : Below w.heap.size w w') : FmsAt w' v fs := (both_below hb _).1 v fs (Nat.le_refl _) h
theorem RxsAt.bel {w w' : World} {v : Value} {rs : List Rx} (h : RxsAt w v rs) (hb : Below w.heap.size w w') : RxsAt w' v rs := (both_below hb _).2 v rs (Nat.le_refl _) h
theorem TmsAt.form {w : World} {v : Value} {ts : List Tm} (h : TmsAt w v ts) : ∃ p c, v = .slice p ts.length c ∧ ts.length ≤ 9223372036854775807 ∧ ts.length ≤ c ∧ ∀ i (hi : i < ts.length), ∃ b off u, p = some ⟨b, off, none⟩ ∧ b < w.heap.size ∧ TmC w b (off + i * 7) ts[i] u ∧ TmsAt w u ts[i].subs ∧ ts[i].v.Fits := by
  cases h with
  | nil => exact ⟨_, _, rfl, by simp, by simp, fun i hi => by simp at hi⟩
  | row us hl fit hc hB cells sub => exact ⟨_, _, rfl, hl, hc, fun i hi => ⟨_, _, us i, rfl, hB, cells i hi, sub i hi, fit i hi⟩⟩
theorem FmsAt.form {w : World} {v : Value} {fs : List Fm} (h : FmsAt w v fs) : ∃ p c, v = .slice p fs.length c ∧ fs.length ≤ 9223372036854775807 ∧ fs.length ≤ c ∧ ∀ i (hi : i < fs.length), ∃ b off uv ut us ur, p = some ⟨b, off, none⟩ ∧ b < w.heap.size ∧ FmC w b (off + i * 10) fs[i] uv ut us ur ∧ NmsAt w uv fs[i].vars ∧ TmsAt w ut fs[i].terms ∧ FmsAt w us fs[i].subs ∧ RxsAt w ur fs[i].rgx := by
  cases h with
  | nil => exact ⟨_, _, rfl, by simp, by simp, fun i hi => by simp at hi⟩
  | row uv ut us ur hl hc hB cells vars terms sub rgx => exact ⟨_, _, rfl, hl, hc, fun i hi => ⟨_, _, uv i, ut i, us i, ur i, rfl, hB, cells i hi, vars i hi, terms i hi, sub i hi, rgx i hi⟩⟩
theorem RxsAt.form {w : World} {v : Value} {rs : List Rx} (h : RxsAt w v rs) : ∃ p c, v = .slice p rs.length c ∧ rs.length ≤ 9223372036854775807 ∧ rs.length ≤ c ∧ ∀ i (hi : i < rs.length), ∃ b off ut us, p = some ⟨b, off, none⟩ ∧ b < w.heap.size ∧ RxC w b (off + i * 3) rs[i] ut us ∧ FmsAt w ut rs[i].test ∧ RxsAt w us rs[i].subs := by
  cases h with
  | nil => exact ⟨_, _, rfl, by simp, by simp, fun i hi => by simp at hi⟩
  | row ut us hl hc hB cells test sub => exact ⟨_, _, rfl, hl, hc, fun i hi => ⟨_, _, ut i, us i, rfl, hB, cells i hi, test i hi, sub i hi⟩⟩

end Go.Proofs.YtfajjphfjilpnaaGreat

namespace Go.Proofs.YtfajjphfjilpnaaGreat
open Go.RowKit LX Go.Shelf
set_option linter.unusedVariables false

/-- All blocks but one stay as they were. -/
structure KeepT (T : Nat) (w w' : World) : Prop where
  os : w'.os = w.os
  tape : w'.tape = w.tape
  output : w'.output = w.output
  size : w.heap.size ≤ w'.heap.size
  block : ∀ k, k < w.heap.size → k ≠ T → w'.heap[k]? = w.heap[k]?
theorem KeepT.refl (T : Nat) (w : World) : KeepT T w w := ⟨rfl, rfl, rfl, Nat.le_refl _, fun _ _ _ => rfl⟩
theorem KeepT.trans {T : Nat} {a b c : World} (h : KeepT T a b) (k : KeepT T b c) : KeepT T a c := ⟨k.os.trans h.os, k.tape.trans h.tape, k.output.trans h.output, Nat.le_trans h.size k.size, fun i hi hT => (k.block i (Nat.lt_of_lt_of_le hi h.size) hT).trans (h.block i hi hT)⟩
theorem KeepT.of {T : Nat} {w w' : World} (h : Below w.heap.size w w') : KeepT T w w' := ⟨h.os, h.tape, h.output, h.size, fun k hk _ => h.block k hk⟩
theorem KeepT.below {T B : Nat} {w w' : World} (h : KeepT T w w') (hB : B ≤ T) (hT : T ≤ w.heap.size) : Below B w w' := ⟨h.os, h.tape, h.output, h.size, fun k hk => h.block k (by omega) (by omega)⟩
theorem KeepT.cell {T : Nat} {w w' : World} (h : KeepT T w w') {p : Addr} (hp : p.block < w.heap.size) (hT : p.block ≠ T) : w'.cell? p = w.cell? p := World.cell?_of_block (w := w) (h.block p.block hp hT)
/-- A tally in its block. -/
def Tal (T : Nat) (s : Int × Int) (w : World) : Prop := w.heap[T]? = some (.cells #[.int .i64 s.1, .int .i64 s.2, .slice none 0 0] 56 (0, 0))
theorem Tal.lt {T : Nat} {s : Int × Int} {w : World} (h : Tal T s w) : T < w.heap.size := (Array.getElem?_eq_some_iff.1 h).1
theorem Tal.alloc {T : Nat} {s : Int × Int} {w : World} (h : Tal T s w) (o : Obj) : Tal T s (w.alloc o) := (Below.heap_alloc w o T h.lt).trans h
theorem Tal.below {T : Nat} {s : Int × Int} {w w' : World} (h : Tal T s w) (hb : Below w.heap.size w w') : Tal T s w' := (hb.block T h.lt).trans h
theorem set_heapA {W : World} {b o e : Nat} {u : Value} {cur : Array Value} {fz : Nat × Nat} (hb : W.heap[b]? = some (.cells cur e fz)) : (W.setCell ⟨b, o, none⟩ u).heap[b]? = some (.cells (cur.setIfInBounds o u) e fz) := by
  show (W.heap.modify b _)[b]? = _
  rw [Array.getElem?_modify, if_pos rfl, hb]
  rfl
theorem tal_set {T : Nat} {s : Int × Int} (x y : Int) {w : World} (h : Tal T s w) : KeepT T w ((w.setCell ⟨T, 0, none⟩ (.int .i64 x)).setCell ⟨T, 1, none⟩ (.int .i64 y)) ∧ Tal T (x, y) ((w.setCell ⟨T, 0, none⟩ (.int .i64 x)).setCell ⟨T, 1, none⟩ (.int .i64 y)) := by
  refine ⟨⟨rfl, rfl, rfl, by simp [World.setCell], fun k hk hT => ?_⟩, ?_⟩
  · exact (Below.heap_setCell _ _ _ _ hT).trans (Below.heap_setCell _ _ _ _ hT)
  · exact set_heapA (set_heapA h)
/-- May another node be; what is counted with it. -/
def meetE (dep : Int) (s : Int × Int) : Int := if 24 < dep then 71 else if s.1 = 256 then 3 else 0
def meetS (dep : Int) (s : Int × Int) : Int × Int := if meetE dep s = 0 then (s.1 + 1, max s.2 dep) else s
/-- What a tally may hold. -/
def OkS (s : Int × Int) : Prop := 0 ≤ s.1 ∧ s.1 ≤ 256 ∧ 0 ≤ s.2 ∧ s.2 ≤ 24
theorem meetS_ok {dep : Int} {s : Int × Int} (h : OkS s) (hd : 0 ≤ dep) : OkS (meetS dep s) := by
  unfold meetS
  split
  · rename_i he
    unfold meetE at he
    by_cases h1 : 24 < dep
    · rw [if_pos h1] at he; cases he
    rw [if_neg h1] at he
    by_cases h2 : s.1 = 256
    · rw [if_pos h2] at he; cases he
    obtain ⟨a, b, c, d⟩ := h
    refine ⟨?_, ?_, ?_, ?_⟩
    · show 0 ≤ s.1 + 1; omega
    · show s.1 + 1 ≤ 256; omega
    · show 0 ≤ max s.2 dep; omega
    · show max s.2 dep ≤ 24; omega
  · exact h
theorem meetE_le {dep : Int} {s : Int × Int} (h : meetE dep s = 0) : dep ≤ 24 := by
  unfold meetE at h
  by_cases h1 : 24 < dep
  · rw [if_pos h1] at h; cases h
  · omega

set_option maxRecDepth 100000 in
set_option maxHeartbeats 2000000 in
theorem meet_any (T : Nat) (dep : Int) (s : Int × Int) (w : World) (hT : Tal T s w) (hs : OkS s) (hd : 0 ≤ dep ∧ dep ≤ 25) :
    Calls Tryz.prog 74 #[.pointer (some ⟨T, 0, none⟩), .int .i64 dep] w fun r w' => r = .returned (.int .i64 (meetE dep s)) ∧ KeepT T w w' ∧ Tal T (meetS dep s) w' := by
  have HT : Hid (Tal T s w) := hT
  have c0 : w.cell? ⟨T, 0, none⟩ = some (.int .i64 s.1) := by rw [Lib.cell_of_heap hT]; rfl
  have c1 : w.cell? ⟨T, 1, none⟩ = some (.int .i64 s.2) := by rw [Lib.cell_of_heap hT]; rfl
  have f0 : w.frozen? ⟨T, 0, none⟩ = false := Lib.frozen_of_heap hT 0
  have f1 : w.frozen? ⟨T, 1, none⟩ = false := Lib.frozen_of_heap hT 1
  clear hT
  obtain ⟨n, d⟩ := s
  dsimp only at c0 c1
  obtain ⟨s1, s2, s3, s4⟩ := hs
  dsimp only at s1 s2 s3 s4
  by_cases h1 : 24 < dep
  · have hE : Hid (meetE dep (n, d) = 71) := if_pos h1
    have hS : Hid (meetS dep (n, d) = (n, d)) := if_neg (by rw [hE.out]; decide)
    rw [hE.out, hS.out]
    go_enter Tryz.func74, Tryz.ntmps74
    go_wp2
    go_ret
    exact ⟨rfl, KeepT.refl _ _, HT.out⟩
  by_cases h2 : n = 256
  · subst h2
    have hE : Hid (meetE dep (256, d) = 3) := by unfold Hid meetE; rw [if_neg h1, if_pos rfl]
    have hS : Hid (meetS dep (256, d) = (256, d)) := if_neg (by rw [hE.out]; decide)
    rw [hE.out, hS.out]
    go_enter Tryz.func74, Tryz.ntmps74
    go_wp2
    go_ret
    exact ⟨rfl, KeepT.refl _ _, HT.out⟩
  have hE : Hid (meetE dep (n, d) = 0) := by unfold Hid meetE; rw [if_neg h1, if_neg h2]
  have hS : Hid (meetS dep (n, d) = (n + 1, max d dep)) := if_pos hE.out
  rw [hE.out, hS.out]
  have h2' : (n == 256) = false := by simp [h2]
  go_enter Tryz.func74, Tryz.ntmps74
  go_wp2
  go_ret
  exact ⟨rfl, tal_set _ _ HT.out⟩

set_option maxRecDepth 100000 in
theorem named_any (x : ByteArray) (b : Bool) (w : World) :
    Calls Tryz.prog 114 #[.string x, .bool b] w fun r w' => r = .returned (.bool (if b = true then nameB x else x.toList == [])) ∧ w' = w := by
  have cN : Hid (∀ W : World, Calls Tryz.prog 40 #[.string x] W fun e w' => e = .returned (.bool (nameB x)) ∧ w' = W) := fun W => name_any x W
  generalize nameB x = N at cN ⊢
  cases b with
  | false =>
    go_enter Tryz.func114, Tryz.ntmps114
    go_wp2
    go_ret
    exact ⟨by first | rfl | simp, rfl⟩
  | true =>
    go_enter Tryz.func114, Tryz.ntmps114
    go_wp2_with fail
    refine (cN.out _).mono ?_
    rintro e w1 ⟨rfl, rfl⟩
    go_wp2
    go_ret
    exact ⟨by first | rfl | simp, rfl⟩

/-- Why a term may not be, whatever stands within. -/
def tmE (t : Tm) : Int := if t.k < 1 ∨ 5 < t.k then 20 else if (if t.k = 1 then nameB t.nm else t.nm.toList == []) = false ∨ t.subs.length ≠ (if 3 ≤ t.k then 2 else 0) then 1 else if t.k = 2 then t.v.may else if sameB t.v.k t.v.n t.v.d t.v.s 0 0 0 ⟨#[]⟩ = true then 0 else 1
theorem retI {a b : Int} (h : a = b) : Ending.returned (.int .i64 a) = .returned (.int .i64 b) := by rw [h]

set_option maxRecDepth 100000 in
set_option maxHeartbeats 4000000 in
theorem cterm_any (t : Tm) (p : Option Addr) (c : Nat) (w : World) (f : t.v.Fits) :
    Calls Tryz.prog 94 #[.agg #[.int .i64 t.k, .string t.nm, .int .i64 t.v.k, .int .i64 t.v.n, .int .i64 t.v.d, .string t.v.s, .slice p t.subs.length c]] w fun r w' => r = .returned (.int .i64 (tmE t)) ∧ Below w.heap.size w w' := by
  have cM : Hid (∀ (b : Bool) (W : World), Calls Tryz.prog 114 #[.string t.nm, .bool b] W fun r w' => r = .returned (.bool (if b = true then nameB t.nm else t.nm.toList == [])) ∧ w' = W) := fun b W => named_any t.nm b W
  have cC : Hid (∀ W : World, Calls Tryz.prog 118 #[.agg #[.int .i64 t.v.k, .int .i64 t.v.n, .int .i64 t.v.d, .string t.v.s]] W fun e w' => e = .returned (.int .i64 t.v.may) ∧ Below W.heap.size W w') := fun W => check_any t.v.k t.v.n t.v.d t.v.s W f.n1 f.n2 f.d1 f.d2
  have cS : Hid (∀ W : World, Calls Tryz.prog 86 #[.agg #[.int .i64 t.v.k, .int .i64 t.v.n, .int .i64 t.v.d, .string t.v.s], .agg #[.int .i64 0, .int .i64 0, .int .i64 0, .string ⟨#[]⟩]] W fun e w' => e = .returned (.bool (sameB t.v.k t.v.n t.v.d t.v.s 0 0 0 ⟨#[]⟩)) ∧ Below W.heap.size W w') := fun W => vsame_any t.v.k t.v.n t.v.d t.v.s 0 0 0 ⟨#[]⟩ W
  have hE : Hid (tmE t = if t.k < 1 ∨ 5 < t.k then 20 else if (if t.k = 1 then nameB t.nm else t.nm.toList == []) = false ∨ t.subs.length ≠ (if 3 ≤ t.k then 2 else 0) then 1 else if t.k = 2 then t.v.may else if sameB t.v.k t.v.n t.v.d t.v.s 0 0 0 ⟨#[]⟩ = true then 0 else 1) := rfl
  generalize tmE t = E at hE ⊢
  generalize t.k = k at *
  generalize t.nm = X at *
  generalize t.v.may = M at *
  generalize sameB t.v.k t.v.n t.v.d t.v.s 0 0 0 ⟨#[]⟩ = Z at *
  generalize t.v = v at *
  obtain ⟨vk, vn, vd, vs⟩ := v
  dsimp only at cC cS ⊢
  generalize t.subs.length = n at *
  clear f
  by_cases hk : k < 1 ∨ 5 < k
  · have hE2 : Hid (E = 20) := by have h := hE.out; rwa [if_pos hk] at h
    have k1 : (k == 1) = false := by simp; omega
    have k2 : (k == 2) = false := by simp; omega
    have k3 : (k == 3) = false := by simp; omega
    have k4 : (k == 4) = false := by simp; omega
    have k5 : (k == 5) = false := by simp; omega
    go_enter Tryz.func94, Tryz.ntmps94
    go_wp2
    go_ret
    exact ⟨retI hE2.out.symm, by go_grown⟩
  have hE1 : Hid (E = if (if k = 1 then nameB X else X.toList == []) = false ∨ n ≠ (if 3 ≤ k then 2 else 0) then 1 else if k = 2 then M else if Z = true then 0 else 1) := by have h := hE.out; rwa [if_neg hk] at h
  clear hE
  have hkk : k = 1 ∨ k = 2 ∨ k = 3 ∨ k = 4 ∨ k = 5 := by omega
  clear hk
  rcases hkk with rfl | rfl | rfl | rfl | rfl
  · have cM1 : Hid (∀ W : World, Calls Tryz.prog 114 #[.string X, .bool true] W fun r w' => r = .returned (.bool (nameB X)) ∧ w' = W) := fun W => cM.out true W
    have hE2 : Hid (E = if (nameB X) = false ∨ n ≠ 0 then 1 else if Z = true then 0 else 1) := by have h := hE1.out; unfold Hid; simpa using h
    generalize (nameB X) = NB at cM1 hE2
    clear hE1 cM
    cases NB with
    | false =>
      have hE3 : Hid (E = 1) := by have h := hE2.out; rwa [if_pos (Or.inl rfl)] at h
      go_enter Tryz.func94, Tryz.ntmps94
      go_wp2_with fail
      refine (cM1.out _).mono ?_
      rintro r w1 ⟨rfl, rfl⟩
      go_wp2
      go_ret
      exact ⟨retI hE3.out.symm, by go_grown⟩
    | true =>
    by_cases hn : n = 0
    case neg =>
      have hE3 : Hid (E = 1) := by have h := hE2.out; rwa [if_pos (Or.inr hn)] at h
      have hn' : ((n : Int) != 0) = true := by simp; omega
      have hn'' : ¬ (n : Int) = 0 := by omega
      go_enter Tryz.func94, Tryz.ntmps94
      go_wp2_with fail
      refine (cM1.out _).mono ?_
      rintro r w1 ⟨rfl, rfl⟩
      go_wp2
      go_ret
      exact ⟨retI hE3.out.symm, by go_grown⟩
    subst hn
    have hE3 : Hid (E = if Z = true then 0 else 1) := by have h := hE2.out; rwa [if_neg (by simp)] at h
    clear hE2
    go_enter Tryz.func94, Tryz.ntmps94
    go_wp2_with fail
    refine (cM1.out _).mono ?_
    rintro r w1 ⟨rfl, rfl⟩
    go_wp2_with fail
    refine (cS.out _).mono ?_
    rintro r w2 ⟨rfl, hb2⟩
    obtain ⟨hB2, -⟩ := bgX (n := w.heap.size) (W0 := w) (by go_grown) (by go_size) hb2
    cases Z with
    | true =>
      go_wp2
      go_ret
      exact ⟨retI hE3.out.symm, hB2⟩
    | false =>
      go_wp2
      go_ret
      exact ⟨retI hE3.out.symm, hB2⟩
  · have cM1 : Hid (∀ W : World, Calls Tryz.prog 114 #[.string X, .bool false] W fun r w' => r = .returned (.bool (X.toList == [])) ∧ w' = W) := fun W => cM.out false W
    have hE2 : Hid (E = if (X.toList == []) = false ∨ n ≠ 0 then 1 else M) := by have h := hE1.out; unfold Hid; simpa using h
    generalize (X.toList == []) = NB at cM1 hE2
    clear hE1 cM
    cases NB with
    | false =>
      have hE3 : Hid (E = 1) := by have h := hE2.out; rwa [if_pos (Or.inl rfl)] at h
      go_enter Tryz.func94, Tryz.ntmps94
      go_wp2_with fail
      refine (cM1.out _).mono ?_
      rintro r w1 ⟨rfl, rfl⟩
      go_wp2
      go_ret
      exact ⟨retI hE3.out.symm, by go_grown⟩
    | true =>
    by_cases hn : n = 0
    case neg =>
      have hE3 : Hid (E = 1) := by have h := hE2.out; rwa [if_pos (Or.inr hn)] at h
      have hn' : ((n : Int) != 0) = true := by simp; omega
      have hn'' : ¬ (n : Int) = 0 := by omega
      go_enter Tryz.func94, Tryz.ntmps94
      go_wp2_with fail
      refine (cM1.out _).mono ?_
      rintro r w1 ⟨rfl, rfl⟩
      go_wp2
      go_ret
      exact ⟨retI hE3.out.symm, by go_grown⟩
    subst hn
    have hE3 : Hid (E = M) := by have h := hE2.out; rwa [if_neg (by simp)] at h
    clear hE2
    go_enter Tryz.func94, Tryz.ntmps94
    go_wp2_with fail
    refine (cM1.out _).mono ?_
    rintro r w1 ⟨rfl, rfl⟩
    go_wp2_with fail
    refine (cC.out _).mono ?_
    rintro r w2 ⟨rfl, hb2⟩
    obtain ⟨hB2, -⟩ := bgX (n := w.heap.size) (W0 := w) (by go_grown) (by go_size) hb2
    go_wp2
    go_ret
    exact ⟨retI hE3.out.symm, hB2⟩
  · have cM1 : Hid (∀ W : World, Calls Tryz.prog 114 #[.string X, .bool false] W fun r w' => r = .returned (.bool (X.toList == [])) ∧ w' = W) := fun W => cM.out false W
    have hE2 : Hid (E = if (X.toList == []) = false ∨ n ≠ 2 then 1 else if Z = true then 0 else 1) := by have h := hE1.out; unfold Hid; simpa using h
    generalize (X.toList == []) = NB at cM1 hE2
    clear hE1 cM
    cases NB with
    | false =>
      have hE3 : Hid (E = 1) := by have h := hE2.out; rwa [if_pos (Or.inl rfl)] at h
      go_enter Tryz.func94, Tryz.ntmps94
      go_wp2_with fail
      refine (cM1.out _).mono ?_
      rintro r w1 ⟨rfl, rfl⟩
      go_wp2
      go_ret
      exact ⟨retI hE3.out.symm, by go_grown⟩
    | true =>
    by_cases hn : n = 2
    case neg =>
      have hE3 : Hid (E = 1) := by have h := hE2.out; rwa [if_pos (Or.inr hn)] at h
      have hn' : ((n : Int) != 2) = true := by simp; omega
      have hn'' : ¬ (n : Int) = 2 := by omega
      go_enter Tryz.func94, Tryz.ntmps94
      go_wp2_with fail
      refine (cM1.out _).mono ?_
      rintro r w1 ⟨rfl, rfl⟩
      go_wp2
      go_ret
      exact ⟨retI hE3.out.symm, by go_grown⟩
    subst hn
    have hE3 : Hid (E = if Z = true then 0 else 1) := by have h := hE2.out; rwa [if_neg (by simp)] at h
    clear hE2
    go_enter Tryz.func94, Tryz.ntmps94
    go_wp2_with fail
    refine (cM1.out _).mono ?_
    rintro r w1 ⟨rfl, rfl⟩
    go_wp2_with fail
    refine (cS.out _).mono ?_
    rintro r w2 ⟨rfl, hb2⟩
    obtain ⟨hB2, -⟩ := bgX (n := w.heap.size) (W0 := w) (by go_grown) (by go_size) hb2
    cases Z with
    | true =>
      go_wp2
      go_ret
      exact ⟨retI hE3.out.symm, hB2⟩
    | false =>
      go_wp2
      go_ret
      exact ⟨retI hE3.out.symm, hB2⟩
  · have cM1 : Hid (∀ W : World, Calls Tryz.prog 114 #[.string X, .bool false] W fun r w' => r = .returned (.bool (X.toList == [])) ∧ w' = W) := fun W => cM.out false W
    have hE2 : Hid (E = if (X.toList == []) = false ∨ n ≠ 2 then 1 else if Z = true then 0 else 1) := by have h := hE1.out; unfold Hid; simpa using h
    generalize (X.toList == []) = NB at cM1 hE2
    clear hE1 cM
    cases NB with
    | false =>
      have hE3 : Hid (E = 1) := by have h := hE2.out; rwa [if_pos (Or.inl rfl)] at h
      go_enter Tryz.func94, Tryz.ntmps94
      go_wp2_with fail
      refine (cM1.out _).mono ?_
      rintro r w1 ⟨rfl, rfl⟩
      go_wp2
      go_ret
      exact ⟨retI hE3.out.symm, by go_grown⟩
    | true =>
    by_cases hn : n = 2
    case neg =>
      have hE3 : Hid (E = 1) := by have h := hE2.out; rwa [if_pos (Or.inr hn)] at h
      have hn' : ((n : Int) != 2) = true := by simp; omega
      have hn'' : ¬ (n : Int) = 2 := by omega
      go_enter Tryz.func94, Tryz.ntmps94
      go_wp2_with fail
      refine (cM1.out _).mono ?_
      rintro r w1 ⟨rfl, rfl⟩
      go_wp2
      go_ret
      exact ⟨retI hE3.out.symm, by go_grown⟩
    subst hn
    have hE3 : Hid (E = if Z = true then 0 else 1) := by have h := hE2.out; rwa [if_neg (by simp)] at h
    clear hE2
    go_enter Tryz.func94, Tryz.ntmps94
    go_wp2_with fail
    refine (cM1.out _).mono ?_
    rintro r w1 ⟨rfl, rfl⟩
    go_wp2_with fail
    refine (cS.out _).mono ?_
    rintro r w2 ⟨rfl, hb2⟩
    obtain ⟨hB2, -⟩ := bgX (n := w.heap.size) (W0 := w) (by go_grown) (by go_size) hb2
    cases Z with
    | true =>
      go_wp2
      go_ret
      exact ⟨retI hE3.out.symm, hB2⟩
    | false =>
      go_wp2
      go_ret
      exact ⟨retI hE3.out.symm, hB2⟩
  · have cM1 : Hid (∀ W : World, Calls Tryz.prog 114 #[.string X, .bool false] W fun r w' => r = .returned (.bool (X.toList == [])) ∧ w' = W) := fun W => cM.out false W
    have hE2 : Hid (E = if (X.toList == []) = false ∨ n ≠ 2 then 1 else if Z = true then 0 else 1) := by have h := hE1.out; unfold Hid; simpa using h
    generalize (X.toList == []) = NB at cM1 hE2
    clear hE1 cM
    cases NB with
    | false =>
      have hE3 : Hid (E = 1) := by have h := hE2.out; rwa [if_pos (Or.inl rfl)] at h
      go_enter Tryz.func94, Tryz.ntmps94
      go_wp2_with fail
      refine (cM1.out _).mono ?_
      rintro r w1 ⟨rfl, rfl⟩
      go_wp2
      go_ret
      exact ⟨retI hE3.out.symm, by go_grown⟩
    | true =>
    by_cases hn : n = 2
    case neg =>
      have hE3 : Hid (E = 1) := by have h := hE2.out; rwa [if_pos (Or.inr hn)] at h
      have hn' : ((n : Int) != 2) = true := by simp; omega
      have hn'' : ¬ (n : Int) = 2 := by omega
      go_enter Tryz.func94, Tryz.ntmps94
      go_wp2_with fail
      refine (cM1.out _).mono ?_
      rintro r w1 ⟨rfl, rfl⟩
      go_wp2
      go_ret
      exact ⟨retI hE3.out.symm, by go_grown⟩
    subst hn
    have hE3 : Hid (E = if Z = true then 0 else 1) := by have h := hE2.out; rwa [if_neg (by simp)] at h
    clear hE2
    go_enter Tryz.func94, Tryz.ntmps94
    go_wp2_with fail
    refine (cM1.out _).mono ?_
    rintro r w1 ⟨rfl, rfl⟩
    go_wp2_with fail
    refine (cS.out _).mono ?_
    rintro r w2 ⟨rfl, hb2⟩
    obtain ⟨hB2, -⟩ := bgX (n := w.heap.size) (W0 := w) (by go_grown) (by go_size) hb2
    cases Z with
    | true =>
      go_wp2
      go_ret
      exact ⟨retI hE3.out.symm, hB2⟩
    | false =>
      go_wp2
      go_ret
      exact ⟨retI hE3.out.symm, hB2⟩

end Go.Proofs.YtfajjphfjilpnaaGreat

namespace Go.Proofs.YtfajjphfjilpnaaGreat
open Go.RowKit LX Go.Shelf
set_option linter.unusedVariables false

section
mutual
/-- A term is gone through: an error's number, and what is counted. -/
def trun (dep : Int) (s : Int × Int) : Tm → Int × (Int × Int)
  | .mk k nm v subs => if meetE dep s = 0 then (if tmE (.mk k nm v subs) = 0 then truns (dep + 1) (meetS dep s) subs else (tmE (.mk k nm v subs), meetS dep s)) else (meetE dep s, s)
def truns (dep : Int) (s : Int × Int) : List Tm → Int × (Int × Int)
  | [] => (0, s)
  | t :: l => if (trun dep s t).1 = 0 then truns dep (trun dep s t).2 l else trun dep s t
end
end
theorem trun_eq (dep : Int) (s : Int × Int) (t : Tm) : trun dep s t = if meetE dep s = 0 then (if tmE t = 0 then truns (dep + 1) (meetS dep s) t.subs else (tmE t, meetS dep s)) else (meetE dep s, s) := by
  cases t
  rw [trun]
  rfl
theorem truns_cons (dep : Int) (s : Int × Int) (t : Tm) (l : List Tm) : truns dep s (t :: l) = if (trun dep s t).1 = 0 then truns dep (trun dep s t).2 l else trun dep s t := by rw [truns]
theorem truns_nil (dep : Int) (s : Int × Int) : truns dep s [] = (0, s) := by rw [truns]
theorem truns_ok : ∀ (m : Nat) (ts : List Tm) (dep : Int) (s : Int × Int), SizeOf.sizeOf ts ≤ m → OkS s → 0 ≤ dep → OkS (truns dep s ts).2 := by
  intro m
  induction m with
  | zero => intro ts dep s hm; cases ts <;> simp at hm
  | succ m ih =>
    intro ts dep s hm hs hd
    cases ts with
    | nil => rw [truns_nil]; exact hs
    | cons t l =>
      simp only [List.cons.sizeOf_spec] at hm
      have ht : OkS (trun dep s t).2 := by
        rw [trun_eq]
        by_cases h1 : meetE dep s = 0
        · rw [if_pos h1]
          by_cases h2 : tmE t = 0
          · rw [if_pos h2]; exact ih _ _ _ (by have := t.subs_lt; omega) (meetS_ok hs hd) (by omega)
          · rw [if_neg h2]; exact meetS_ok hs hd
        · rw [if_neg h1]; exact hs
      rw [truns_cons]
      split
      · exact ih _ _ _ (by omega) ht hd
      · exact ht

set_option maxRecDepth 100000 in
set_option maxHeartbeats 8000000 in
theorem terms_any (w0 : World) (T : Nat) (hT0 : w0.heap.size ≤ T) : ∀ (m : Nat) (ts : List Tm) (V : Value) (dep : Int) (s : Int × Int) (w : World), SizeOf.sizeOf ts ≤ m → TmsAt w0 V ts → Below w0.heap.size w0 w → Tal T s w → OkS s → 0 ≤ dep → dep ≤ 25 →
    Calls Tryz.prog 76 #[.pointer (some ⟨T, 0, none⟩), .int .i64 dep, V] w fun r w' => r = .returned (.int .i64 (truns dep s ts).1) ∧ KeepT T w w' ∧ Tal T (truns dep s ts).2 w' := by
  intro m
  induction m with
  | zero => intro ts V dep s w hm; cases ts <;> simp at hm
  | succ m ih =>
    intro ts V dep s w hm hV hw hT hs hd0 hd1
    obtain ⟨p, c, rfl, hl, hc, HX0⟩ := hV.form
    have HX : Hid (∀ i (hi : i < ts.length), ∃ b off u, p = some ⟨b, off, none⟩ ∧ b < w0.heap.size ∧ TmC w0 b (off + i * 7) ts[i] u ∧ TmsAt w0 u ts[i].subs ∧ ts[i].v.Fits) := HX0
    have IH : Hid (∀ (ts : List Tm) (V : Value) (dep : Int) (s : Int × Int) (w : World), SizeOf.sizeOf ts ≤ m → TmsAt w0 V ts → Below w0.heap.size w0 w → Tal T s w → OkS s → 0 ≤ dep → dep ≤ 25 → Calls Tryz.prog 76 #[.pointer (some ⟨T, 0, none⟩), .int .i64 dep, V] w fun r w' => r = .returned (.int .i64 (truns dep s ts).1) ∧ KeepT T w w' ∧ Tal T (truns dep s ts).2 w') := ih
    have HT : Hid (Tal T s w) := hT
    have HS : Hid (OkS s) := hs
    have hTw : T < w.heap.size := hT.lt
    have HM : Hid (SizeOf.sizeOf ts ≤ m + 1) := hm
    clear hV HX0 ih hT hs hm
    obtain ⟨R, eR⟩ : ∃ R : Int × (Int × Int), Hid (truns dep s ts = R) := ⟨_, rfl⟩
    rw [eR.out]
    obtain ⟨n, en⟩ : ∃ n : Nat, Hid (ts.length = n) := ⟨_, rfl⟩
    rw [en.out] at hl hc ⊢
    go_enter Tryz.func76, Tryz.ntmps76
    go_wp2
    go_loopw [12] (fun v wr => ∃ (k : Nat) (q : Int × Int), k ≤ n ∧ v = .int .i64 k ∧ Hid (R = truns dep q (ts.drop k)) ∧ KeepT T w wr ∧ Hid (Tal T q wr) ∧ Hid (OkS q)) (fun v _ => n - (intOf v).toNat)
    case atStart => exact ⟨0, s, Nat.zero_le _, rfl, by rw [List.drop_zero]; exact eR.out.symm, KeepT.refl _ _, HT, HS⟩
    case round =>
      obtain ⟨k, q, hk, rfl, hr, hK, hT, hs⟩ := hrel
      by_cases hlt : k < n
      case neg =>
        have c2 : ¬ (k : Int) < n := by omega
        have hr2 : Hid (R = (0, q)) := by
          have h := hr.out
          rw [List.drop_eq_nil_of_le (by have := en.out; omega), truns_nil] at h
          exact h
        go_wp2
        go_ret
        rw [hr2.out]
        exact ⟨rfl, hK, hT.out⟩
      have hlt' : (k : Int) < n := by omega
      have kx : k < ts.length := by have := en.out; omega
      obtain ⟨b, off, u, rfl, hb, TC, TS, TF⟩ := HX.out k kx
      have hTr : T < wr.heap.size := Nat.lt_of_lt_of_le hTw hK.size
      have hBr : Below w0.heap.size w0 wr := hw.trans ((hK.below (B := w0.heap.size) hT0 (Nat.le_of_lt hTw)))
      obtain ⟨a0, a1, a2, a3, a4, a5, a6⟩ := TC.below hBr hb
      have hr2 : Hid (R = if (trun dep q ts[k]).1 = 0 then truns dep (trun dep q ts[k]).2 (ts.drop (k + 1)) else trun dep q ts[k]) := by
        have h := hr.out
        rw [List.drop_eq_getElem_cons kx, truns_cons] at h
        exact h
      have hsz : Hid (SizeOf.sizeOf ts[k].subs ≤ m) := by
        have h1 := mem_lt k kx
        have h2 := ts[k].subs_lt
        have h3 := HM.out
        unfold Hid
        omega
      have hte := trun_eq dep q ts[k]
      clear TC hr
      generalize ts[k] = t at *
      obtain ⟨pu, cu, rfl, -⟩ := TS.form
      have cM : Hid (∀ W : World, Tal T q W → Calls Tryz.prog 74 #[.pointer (some ⟨T, 0, none⟩), .int .i64 dep] W fun r w' => r = .returned (.int .i64 (meetE dep q)) ∧ KeepT T W w' ∧ Tal T (meetS dep q) w') := fun W hW => meet_any T dep q W hW hs.out ⟨hd0, hd1⟩
      have cC : Hid (∀ W : World, Calls Tryz.prog 94 #[.agg #[.int .i64 t.k, .string t.nm, .int .i64 t.v.k, .int .i64 t.v.n, .int .i64 t.v.d, .string t.v.s, .slice pu t.subs.length cu]] W fun r w' => r = .returned (.int .i64 (tmE t)) ∧ Below W.heap.size W w') := fun W => cterm_any t pu cu W TF
      have cR : Hid (∀ W : World, Below w0.heap.size w0 W → Tal T (meetS dep q) W → meetE dep q = 0 → Calls Tryz.prog 76 #[.pointer (some ⟨T, 0, none⟩), .int .i64 (dep + 1), .slice pu t.subs.length cu] W fun r w' => r = .returned (.int .i64 (truns (dep + 1) (meetS dep q) t.subs).1) ∧ KeepT T W w' ∧ Tal T (truns (dep + 1) (meetS dep q) t.subs).2 w') := fun W h1 h2 h3 => IH.out t.subs _ (dep + 1) (meetS dep q) W hsz.out TS h1 h2 (meetS_ok hs.out hd0) (by omega) (by have := meetE_le h3; omega)
      have HO2 : Hid (OkS (truns (dep + 1) (meetS dep q) t.subs).2) := truns_ok m t.subs (dep + 1) (meetS dep q) hsz.out (meetS_ok hs.out hd0) (by omega)
      clear TS TF hsz
      have HTE : Hid (trun dep q t = if meetE dep q = 0 then (if tmE t = 0 then truns (dep + 1) (meetS dep q) t.subs else (tmE t, meetS dep q)) else (meetE dep q, q)) := hte
      have HMS : Hid (¬ meetE dep q = 0 → meetS dep q = q) := fun h => if_neg h
      clear hte
      generalize trun dep q t = TR at *
      generalize truns (dep + 1) (meetS dep q) t.subs = TS at *
      generalize meetS dep q = Q1 at *
      generalize meetE dep q = E1 at *
      generalize tmE t = E2 at *
      generalize t.subs.length = nu at *
      generalize t.v.k = vk at *
      generalize t.v.n = vn at *
      generalize t.v.d = vd at *
      generalize t.v.s = vs at *
      generalize t.k = tk at *
      generalize t.nm = nm at *
      have hTne : wr.heap.size ≠ T := by omega
      go_wp2_with fail
      refine (cM.out _ (Tal.alloc hT.out _)).mono ?_
      rintro r w2 ⟨rfl, hk2, ht2⟩
      have e0 : w2.cell? ⟨wr.heap.size, 0, none⟩ = some (.int .i64 tk) := (hk2.cell (p := ⟨wr.heap.size, 0, none⟩) (by simp) hTne).trans (by simp [go_sem])
      have e1 : w2.cell? ⟨wr.heap.size, 1, none⟩ = some (.string nm) := (hk2.cell (p := ⟨wr.heap.size, 1, none⟩) (by simp) hTne).trans (by simp [go_sem])
      have e2 : w2.cell? ⟨wr.heap.size, 2, none⟩ = some (.int .i64 vk) := (hk2.cell (p := ⟨wr.heap.size, 2, none⟩) (by simp) hTne).trans (by simp [go_sem])
      have e3 : w2.cell? ⟨wr.heap.size, 3, none⟩ = some (.int .i64 vn) := (hk2.cell (p := ⟨wr.heap.size, 3, none⟩) (by simp) hTne).trans (by simp [go_sem])
      have e4 : w2.cell? ⟨wr.heap.size, 4, none⟩ = some (.int .i64 vd) := (hk2.cell (p := ⟨wr.heap.size, 4, none⟩) (by simp) hTne).trans (by simp [go_sem])
      have e5 : w2.cell? ⟨wr.heap.size, 5, none⟩ = some (.string vs) := (hk2.cell (p := ⟨wr.heap.size, 5, none⟩) (by simp) hTne).trans (by simp [go_sem])
      have e6 : w2.cell? ⟨wr.heap.size, 6, none⟩ = some (.slice pu nu cu) := (hk2.cell (p := ⟨wr.heap.size, 6, none⟩) (by simp) hTne).trans (by simp [go_sem])
      have hK2 : KeepT T w w2 := hK.trans ((KeepT.of ((Below.refl _ _).alloc (Nat.le_refl _) _)).trans hk2)
      have hz2 : wr.heap.size < w2.heap.size := by have := hk2.size; simp at this; omega
      have HT2 : Hid (Tal T Q1 w2) := ht2
      clear hk2 ht2 a0 a1 a2 a3 a4 a5 a6 cM
      by_cases hE1 : E1 = 0
      case neg =>
        have hE1' : (E1 == 0) = false := by simp [hE1]
        have hE1'' : (E1 != 0) = true := by simp [hE1]
        have hE1''' : ¬ E1 = 0 := hE1
        have hR : Hid (R = (E1, q)) := by
          have h := hr2.out
          have h2 := HTE.out
          rw [if_neg hE1] at h2
          rw [h2, if_neg hE1] at h
          exact h
        have hQ := HMS.out hE1
        subst hQ
        go_wp2
        go_ret
        rw [hR.out]
        exact ⟨rfl, hK2, HT2.out⟩
      have HTE2 : Hid (TR = if E2 = 0 then TS else (E2, Q1)) := by have h := HTE.out; rwa [if_pos hE1] at h
      have cR2 : Hid (∀ W : World, Below w0.heap.size w0 W → Tal T Q1 W → Calls Tryz.prog 76 #[.pointer (some ⟨T, 0, none⟩), .int .i64 (dep + 1), .slice pu nu cu] W fun r w' => r = .returned (.int .i64 TS.1) ∧ KeepT T W w' ∧ Tal T TS.2 w') := fun W a b => cR.out W a b hE1
      clear HTE cR HMS
      subst hE1
      have hB2 : Below w0.heap.size w0 w2 := hw.trans (hK2.below hT0 (Nat.le_of_lt hTw))
      go_wp2_with fail
      refine (cC.out _).mono ?_
      rintro r w3 ⟨rfl, hb3⟩
      have g6 := (hb3.cell (p := ⟨wr.heap.size, 6, none⟩) hz2).trans e6
      have hK3 : KeepT T w w3 := hK2.trans (KeepT.of hb3)
      have HT3 : Hid (Tal T Q1 w3) := HT2.out.below hb3
      have hB3 : Below w0.heap.size w0 w3 := hw.trans (hK3.below hT0 (Nat.le_of_lt hTw))
      clear cC e0 e1 e2 e3 e4 e5 e6 hb3 HT2 hB2
      by_cases hE2 : E2 = 0
      case neg =>
        have hE2' : (E2 == 0) = false := by simp [hE2]
        have hE2'' : (E2 != 0) = true := by simp [hE2]
        have hE2''' : ¬ E2 = 0 := hE2
        have hR : Hid (R = (E2, Q1)) := by
          have h := hr2.out
          have h2 := HTE2.out
          rw [if_neg hE2] at h2
          rw [h2, if_neg hE2] at h
          exact h
        go_wp2
        go_ret
        rw [hR.out]
        exact ⟨rfl, hK3, HT3.out⟩
      have hTR : Hid (TR = TS) := by have h2 := HTE2.out; rwa [if_pos hE2] at h2
      subst hE2
      have ctR := cR2.out w3 hB3 HT3.out
      clear cR2 HTE2
      obtain ⟨E3, Q3⟩ := TS
      dsimp only at ctR HO2
      have CTR : Hid (Calls Tryz.prog 76 #[.pointer (some ⟨T, 0, none⟩), .int .i64 (dep + 1), .slice pu nu cu] w3 fun r w' => r = .returned (.int .i64 E3) ∧ KeepT T w3 w' ∧ Tal T Q3 w') := ctR
      clear ctR
      go_wp2_with fail
      refine CTR.out.mono ?_
      rintro r w4 ⟨rfl, hk4, ht4⟩
      have hK4 : KeepT T w w4 := hK3.trans hk4
      have HT4 : Hid (Tal T Q3 w4) := ht4
      clear CTR hk4 ht4 g6
      by_cases hE3 : E3 = 0
      case neg =>
        have hE3'' : (E3 != 0) = true := by simp [hE3]
        have hE3''' : ¬ E3 = 0 := hE3
        have hR : Hid (R = (E3, Q3)) := by
          have h := hr2.out
          rw [hTR.out, if_neg hE3] at h
          exact h
        go_wp2
        go_ret
        rw [hR.out]
        exact ⟨rfl, hK4, HT4.out⟩
      have hR : Hid (R = truns dep Q3 (ts.drop (k + 1))) := by
        have h := hr2.out
        rw [hTR.out, if_pos hE3] at h
        exact h
      clear hTR hr2
      subst hE3
      go_wp2
      exact ⟨⟨k + 1, Q3, by omega, by go_num, hR, hK4, HT4, HO2⟩, by simp [intOf]; omega⟩

end Go.Proofs.YtfajjphfjilpnaaGreat

namespace Go.Proofs.YtfajjphfjilpnaaGreat
open Go.RowKit LX Go.Shelf
set_option linter.unusedVariables false

def opB (op : Int) (used : Bool) : Bool := if used = true then decide (1 ≤ op ∧ op ≤ 6) else op == 0
set_option maxRecDepth 100000 in
theorem isop_any (op : Int) (b : Bool) (w : World) :
    Calls Tryz.prog 115 #[.int .i64 op, .bool b] w fun r w' => r = .returned (.bool (opB op b)) ∧ w' = w := by
  cases b with
  | false =>
    have e : opB op false = (op == 0) := rfl
    rw [e]
    go_enter Tryz.func115, Tryz.ntmps115
    go_wp2
    go_ret
    exact ⟨by first | rfl | simp, rfl⟩
  | true =>
    have e : opB op true = decide (1 ≤ op ∧ op ≤ 6) := rfl
    rw [e]
    by_cases h1 : 1 ≤ op
    · by_cases h2 : op ≤ 6
      · rw [decide_eq_true (show 1 ≤ op ∧ op ≤ 6 from ⟨h1, h2⟩)]
        go_enter Tryz.func115, Tryz.ntmps115
        go_wp2
        go_ret
        exact ⟨by first | rfl | simp, rfl⟩
      · rw [decide_eq_false (show ¬ (1 ≤ op ∧ op ≤ 6) from fun h => h2 h.2)]
        go_enter Tryz.func115, Tryz.ntmps115
        go_wp2
        go_ret
        exact ⟨by first | rfl | simp, rfl⟩
    · rw [decide_eq_false (show ¬ (1 ≤ op ∧ op ≤ 6) from fun h => h1 h.1)]
      go_enter Tryz.func115, Tryz.ntmps115
      go_wp2
      go_ret
      exact ⟨by first | rfl | simp, rfl⟩
/-- Is an interval one? -/
def itvU (lo hi : Int) (o : Bool) : Bool := if lo < 0 ∨ 1099511627776 < lo then false else if o = true then hi == 0 else decide (lo ≤ hi ∧ hi ≤ 1099511627776)
def itvZ (lo hi : Int) (o : Bool) : Bool := lo == 0 && (hi == 0 && o == false)
def itvB (lo hi : Int) (o : Bool) (used : Bool) : Bool := if used = true then itvU lo hi o else itvZ lo hi o
set_option maxRecDepth 100000 in
set_option maxHeartbeats 1000000 in
theorem isiv_any (lo hi : Int) (o b : Bool) (w : World) :
    Calls Tryz.prog 116 #[.agg #[.int .i64 lo, .int .i64 hi, .bool o], .bool b] w fun r w' => r = .returned (.bool (itvB lo hi o b)) ∧ Below w.heap.size w w' := by
  cases b with
  | false =>
    have e : itvB lo hi o false = (lo == 0 && (hi == 0 && o == false)) := rfl
    rw [e]
    by_cases h1 : lo = 0
    · subst h1
      by_cases h2 : hi = 0
      · subst h2
        cases o <;>
        · go_enter Tryz.func116, Tryz.ntmps116
          go_wp2
          go_ret
          exact ⟨by first | rfl | simp, by go_grown⟩
      · have h2' : (hi == 0) = false := by simp [h2]
        rw [h2']
        cases o <;>
        · go_enter Tryz.func116, Tryz.ntmps116
          go_wp2
          go_ret
          exact ⟨by first | rfl | simp, by go_grown⟩
    · have h1' : (lo == 0) = false := by simp [h1]
      rw [h1']
      cases o <;>
      · go_enter Tryz.func116, Tryz.ntmps116
        go_wp2
        go_ret
        exact ⟨by first | rfl | simp, by go_grown⟩
  | true =>
    have e : itvB lo hi o true = if lo < 0 ∨ 1099511627776 < lo then false else if o = true then hi == 0 else decide (lo ≤ hi ∧ hi ≤ 1099511627776) := rfl
    rw [e]
    by_cases h1 : lo < 0
    · rw [if_pos (Or.inl h1)]
      go_enter Tryz.func116, Tryz.ntmps116
      go_wp2
      go_ret
      exact ⟨by first | rfl | simp, by go_grown⟩
    by_cases h2 : 1099511627776 < lo
    · rw [if_pos (Or.inr h2)]
      go_enter Tryz.func116, Tryz.ntmps116
      go_wp2
      go_ret
      exact ⟨by first | rfl | simp, by go_grown⟩
    rw [if_neg (by omega)]
    cases o with
    | true =>
      rw [if_pos rfl]
      go_enter Tryz.func116, Tryz.ntmps116
      go_wp2
      go_ret
      exact ⟨by first | rfl | simp, by go_grown⟩
    | false =>
      rw [if_neg (by decide)]
      by_cases h3 : lo ≤ hi
      · by_cases h4 : hi ≤ 1099511627776
        · rw [decide_eq_true (show lo ≤ hi ∧ hi ≤ 1099511627776 from ⟨h3, h4⟩)]
          go_enter Tryz.func116, Tryz.ntmps116
          go_wp2
          go_ret
          exact ⟨by first | rfl | simp, by go_grown⟩
        · rw [decide_eq_false (show ¬ (lo ≤ hi ∧ hi ≤ 1099511627776) from fun h => h4 h.2)]
          go_enter Tryz.func116, Tryz.ntmps116
          go_wp2
          go_ret
          exact ⟨by first | rfl | simp, by go_grown⟩
      · rw [decide_eq_false (show ¬ (lo ≤ hi ∧ hi ≤ 1099511627776) from fun h => h3 h.1)]
        go_enter Tryz.func116, Tryz.ntmps116
        go_wp2
        go_ret
        exact ⟨by first | rfl | simp, by go_grown⟩
/-- Has it too many? -/
def manyB (k : Int) (nv nt : Nat) : Bool := if k = 3 then decide (6 < nt) else if k = 20 ∨ k = 21 then decide (6 < nv) else if k = 10 ∨ k = 19 then decide (8 < nv) else false
theorem dec_lt (a n : Nat) : decide ((a : Int) < (n : Int)) = decide (a < n) := by
  by_cases h : a < n
  · rw [decide_eq_true h, decide_eq_true (by omega)]
  · rw [decide_eq_false h, decide_eq_false (by omega)]
set_option maxRecDepth 100000 in
set_option maxHeartbeats 2000000 in
theorem toomany_any (k op lo hi : Int) (nm : ByteArray) (o : Bool) (pv pt ps pr : Option Addr) (nv cv nt ct ns cs nr cr : Nat) (w : World) :
    Calls Tryz.prog 90 #[.agg #[.int .i64 k, .string nm, .int .i64 op, .slice pv nv cv, .slice pt nt ct, .int .i64 lo, .int .i64 hi, .bool o, .slice ps ns cs, .slice pr nr cr]] w fun r w' => r = .returned (.bool (manyB k nv nt)) ∧ Below w.heap.size w w' := by
  have hv6 := dec_lt 6 nv
  have hv8 := dec_lt 8 nv
  have ht6 := dec_lt 6 nt
  obtain ⟨R, eR⟩ : ∃ R : Bool, Hid (manyB k nv nt = R) := ⟨_, rfl⟩
  rw [eR.out]
  have hR : Hid (R = if k = 3 then decide (6 < nt) else if k = 20 ∨ k = 21 then decide (6 < nv) else if k = 10 ∨ k = 19 then decide (8 < nv) else false) := eR.out.symm
  clear eR
  by_cases h3 : k = 3
  · have hR2 : Hid (R = decide (6 < nt)) := by have h := hR.out; rwa [if_pos h3] at h
    subst h3
    rw [hR2.out]
    go_enter Tryz.func90, Tryz.ntmps90
    go_wp2
    go_ret
    exact ⟨by first | rfl | (simp; done) | (simp; omega), by go_grown⟩
  by_cases h20 : k = 20 ∨ k = 21
  · have hR2 : Hid (R = decide (6 < nv)) := by have h := hR.out; rwa [if_neg h3, if_pos h20] at h
    rw [hR2.out]
    rcases h20 with rfl | rfl <;>
    · go_enter Tryz.func90, Tryz.ntmps90
      go_wp2
      go_ret
      exact ⟨by first | rfl | (simp; done) | (simp; omega), by go_grown⟩
  by_cases h10 : k = 10 ∨ k = 19
  · have hR2 : Hid (R = decide (8 < nv)) := by have h := hR.out; rwa [if_neg h3, if_neg h20, if_pos h10] at h
    rw [hR2.out]
    rcases h10 with rfl | rfl <;>
    · go_enter Tryz.func90, Tryz.ntmps90
      go_wp2
      go_ret
      exact ⟨by first | rfl | (simp; done) | (simp; omega), by go_grown⟩
  have hR2 : Hid (R = false) := by have h := hR.out; rwa [if_neg h3, if_neg h20, if_neg h10] at h
  rw [hR2.out]
  have k3 : (k == 3) = false := by simp; omega
  have k20 : (k == 20) = false := by simp; omega
  have k21 : (k == 21) = false := by simp; omega
  have k10 : (k == 10) = false := by simp; omega
  have k19 : (k == 19) = false := by simp; omega
  go_enter Tryz.func90, Tryz.ntmps90
  go_wp2
  go_ret
  exact ⟨by first | rfl | (simp; done) | (simp; omega), by go_grown⟩
/-- Why a regex may not be, whatever stands within. -/
def rxE (r : Rx) : Int := if r.k < 1 ∨ 5 < r.k then 20 else if r.test.length ≠ (if r.k = 2 then 1 else 0) ∨ r.subs.length ≠ (if r.k = 3 ∨ r.k = 4 then 2 else if r.k = 5 then 1 else 0) then 1 else 0

end Go.Proofs.YtfajjphfjilpnaaGreat

namespace Go.Proofs.YtfajjphfjilpnaaGreat
open Go.RowKit LX Go.Shelf
set_option linter.unusedVariables false

theorem NmsAt.form {w : World} {v : Value} {vs : List ByteArray} (h : NmsAt w v vs) : ∃ p c, v = .slice p vs.length c ∧ vs.length ≤ 9223372036854775807 ∧ vs.length ≤ c ∧ ∀ i (hi : i < vs.length), ∃ b off, p = some ⟨b, off, none⟩ ∧ b < w.heap.size ∧ w.cell? ⟨b, off + i, none⟩ = some (.string vs[i]) := by
  obtain ⟨hl, p, c, e, hc, h | ⟨b, off, h1, h2, h3⟩⟩ := h
  · exact ⟨p, c, e, hl, hc, fun i hi => by subst h; simp at hi⟩
  · exact ⟨p, c, e, hl, hc, fun i hi => ⟨b, off, h1, h2, h3 i hi⟩⟩
def namesB : List ByteArray → Bool
  | [] => true
  | x :: l => nameB x && namesB l

set_option maxRecDepth 100000 in
set_option maxHeartbeats 2000000 in
theorem anames_any (V : Value) (vs : List ByteArray) (w : World) (hV : NmsAt w V vs) :
    Calls Tryz.prog 113 #[V] w fun r w' => r = .returned (.bool (namesB vs)) ∧ w' = w := by
  have cN : Hid (∀ (X : ByteArray) (W : World), Calls Tryz.prog 40 #[.string X] W fun e w' => e = .returned (.bool (nameB X)) ∧ w' = W) := fun X W => name_any X W
  obtain ⟨p, c, rfl, hl, -, HX0⟩ := hV.form
  have HX : Hid (∀ i (hi : i < vs.length), ∃ b off, p = some ⟨b, off, none⟩ ∧ b < w.heap.size ∧ w.cell? ⟨b, off + i, none⟩ = some (.string vs[i])) := HX0
  clear hV HX0
  obtain ⟨R, eR⟩ : ∃ R : Bool, Hid (namesB vs = R) := ⟨_, rfl⟩
  obtain ⟨n, en⟩ : ∃ n : Nat, Hid (vs.length = n) := ⟨_, rfl⟩
  rw [eR.out, en.out]
  rw [en.out] at hl
  go_enter Tryz.func113, Tryz.ntmps113
  go_wp2
  go_loop [7] (fun i => ∃ k : Nat, k ≤ n ∧ i = .int .i64 k ∧ Hid (R = namesB (vs.drop k))) (fun i => n - (intOf i).toNat)
  case atStart => exact ⟨0, Nat.zero_le _, rfl, by rw [List.drop_zero]; exact eR.out.symm⟩
  case round =>
    obtain ⟨k, hk, rfl, hr⟩ := hrel
    by_cases hlt : k < n
    · have kx : k < vs.length := by have := en.out; omega
      obtain ⟨b, off, rfl, hb, r0⟩ := HX.out k kx
      have hlt' : (k : Int) < n := by omega
      have hr2 : Hid (R = (nameB vs[k] && namesB (vs.drop (k + 1)))) := by
        have h := hr.out
        rw [List.drop_eq_getElem_cons kx] at h
        exact h
      clear hr
      generalize vs[k] = X at r0 hr2
      have cN1 : Hid (∀ W : World, Calls Tryz.prog 40 #[.string X] W fun e w' => e = .returned (.bool (nameB X)) ∧ w' = W) := fun W => cN.out X W
      generalize nameB X = NB at cN1 hr2
      cases NB with
      | false =>
        have hr3 : Hid (R = false) := by have h := hr2.out; unfold Hid; simpa using h
        go_wp2_with fail
        refine (cN1.out _).mono ?_
        rintro e w2 ⟨rfl, rfl⟩
        clear cN1
        go_wp2
        go_ret
        rw [hr3.out]
        exact ⟨rfl, rfl⟩
      | true =>
        have hr3 : Hid (R = namesB (vs.drop (k + 1))) := by have h := hr2.out; unfold Hid; simpa using h
        go_wp2_with fail
        refine (cN1.out _).mono ?_
        rintro e w2 ⟨rfl, rfl⟩
        clear cN1
        go_wp2
        exact ⟨⟨k + 1, by omega, by go_num, hr3⟩, by simp [intOf]; omega⟩
    · have c2 : ¬ (k : Int) < n := by omega
      have hr3 : Hid (R = true) := by
        have h := hr.out
        rw [List.drop_eq_nil_of_le (by have := en.out; omega)] at h
        exact h
      go_wp2
      go_ret
      rw [hr3.out]
      exact ⟨rfl, rfl⟩

set_option maxRecDepth 100000 in
theorem takes_any (a b n : Int) (w : World) :
    Calls Tryz.prog 112 #[.agg #[.int .i64 a, .int .i64 b], .int .i64 n] w fun r w' => r = .returned (.bool (decide (a ≤ n ∧ n ≤ b))) ∧ Below w.heap.size w w' := by
  by_cases h1 : a ≤ n
  · by_cases h2 : n ≤ b
    · rw [decide_eq_true (show a ≤ n ∧ n ≤ b from ⟨h1, h2⟩)]
      go_enter Tryz.func112, Tryz.ntmps112
      go_wp2
      go_ret
      exact ⟨by first | rfl | simp, by go_grown⟩
    · rw [decide_eq_false (show ¬ (a ≤ n ∧ n ≤ b) from fun h => h2 h.2)]
      go_enter Tryz.func112, Tryz.ntmps112
      go_wp2
      go_ret
      exact ⟨by first | rfl | simp, by go_grown⟩
  · rw [decide_eq_false (show ¬ (a ≤ n ∧ n ≤ b) from fun h => h1 h.1)]
    go_enter Tryz.func112, Tryz.ntmps112
    go_wp2
    go_ret
    exact ⟨by first | rfl | simp, by go_grown⟩

/-- Which fields a kind of formulas uses, and how many there may be of each. -/
structure Frm where
  nm : Bool
  op : Bool
  iv : Bool
  vl : Int
  vm : Int
  tl : Int
  tm : Int
  sl : Int
  sm : Int
  rl : Int
  rm : Int
def Frm.val (f : Frm) : Value := .agg #[.bool f.nm, .bool f.op, .bool f.iv, .int .i64 f.vl, .int .i64 f.vm, .int .i64 f.tl, .int .i64 f.tm, .int .i64 f.sl, .int .i64 f.sm, .int .i64 f.rl, .int .i64 f.rm]
def frm (k : Int) : Frm := if k = 1 then ⟨false, false, false, 0, 0, 0, 0, 0, 0, 0, 0⟩ else if k = 2 then ⟨false, false, false, 0, 0, 0, 0, 0, 0, 0, 0⟩ else if k = 3 then ⟨true, false, false, 0, 0, 0, 6, 0, 0, 0, 0⟩ else if k = 4 then ⟨false, false, false, 0, 0, 2, 2, 0, 0, 0, 0⟩ else if k = 5 then ⟨false, false, false, 0, 0, 2, 2, 0, 0, 0, 0⟩ else if k = 6 then ⟨false, false, false, 0, 0, 2, 2, 0, 0, 0, 0⟩ else if k = 7 then ⟨false, false, false, 0, 0, 0, 0, 1, 1, 0, 0⟩ else if k = 8 then ⟨false, false, false, 0, 0, 0, 0, 2, 2, 0, 0⟩ else if k = 9 then ⟨false, false, false, 0, 0, 0, 0, 2, 2, 0, 0⟩ else if k = 10 then ⟨false, false, false, 1, 8, 0, 0, 1, 1, 0, 0⟩ else if k = 11 then ⟨false, false, true, 0, 0, 0, 0, 1, 1, 0, 0⟩ else if k = 12 then ⟨false, false, true, 0, 0, 0, 0, 1, 1, 0, 0⟩ else if k = 13 then ⟨false, false, true, 0, 0, 0, 0, 1, 1, 0, 0⟩ else if k = 14 then ⟨false, false, true, 0, 0, 0, 0, 1, 1, 0, 0⟩ else if k = 15 then ⟨false, false, true, 0, 0, 0, 0, 2, 2, 0, 0⟩ else if k = 16 then ⟨false, false, true, 0, 0, 0, 0, 2, 2, 0, 0⟩ else if k = 17 then ⟨false, false, true, 0, 0, 0, 0, 0, 0, 1, 1⟩ else if k = 18 then ⟨false, false, true, 0, 0, 0, 0, 0, 0, 1, 1⟩ else if k = 19 then ⟨true, true, false, 1, 8, 0, 0, 1, 1, 0, 0⟩ else if k = 20 then ⟨true, false, false, 0, 6, 0, 0, 2, 2, 0, 0⟩ else if k = 21 then ⟨true, false, false, 0, 6, 0, 0, 2, 2, 0, 0⟩ else ⟨false, false, false, 0, 0, 0, 0, 1, 9223372036854775807, 0, 0⟩

set_option maxRecDepth 100000 in
set_option maxHeartbeats 1000000 in
theorem formof_1 (w : World) : Calls Tryz.prog 111 #[.int .i64 1] w fun r w' => r = .returned (.agg #[.bool false, .bool false, .bool false, .int .i64 0, .int .i64 0, .int .i64 0, .int .i64 0, .int .i64 0, .int .i64 0, .int .i64 0, .int .i64 0]) ∧ Below w.heap.size w w' := by
  go_enter Tryz.func111, Tryz.ntmps111
  go_wp2
  refine bodyPost_ret (by simp [results, Tryz.results111, go_sem]; try rfl) rfl ?_
  exact ⟨rfl, by go_grown⟩

set_option maxRecDepth 100000 in
set_option maxHeartbeats 1000000 in
theorem formof_2 (w : World) : Calls Tryz.prog 111 #[.int .i64 2] w fun r w' => r = .returned (.agg #[.bool false, .bool false, .bool false, .int .i64 0, .int .i64 0, .int .i64 0, .int .i64 0, .int .i64 0, .int .i64 0, .int .i64 0, .int .i64 0]) ∧ Below w.heap.size w w' := by
  go_enter Tryz.func111, Tryz.ntmps111
  go_wp2
  refine bodyPost_ret (by simp [results, Tryz.results111, go_sem]; try rfl) rfl ?_
  exact ⟨rfl, by go_grown⟩

set_option maxRecDepth 100000 in
set_option maxHeartbeats 1000000 in
theorem formof_3 (w : World) : Calls Tryz.prog 111 #[.int .i64 3] w fun r w' => r = .returned (.agg #[.bool true, .bool false, .bool false, .int .i64 0, .int .i64 0, .int .i64 0, .int .i64 6, .int .i64 0, .int .i64 0, .int .i64 0, .int .i64 0]) ∧ Below w.heap.size w w' := by
  go_enter Tryz.func111, Tryz.ntmps111
  go_wp2
  refine bodyPost_ret (by simp [results, Tryz.results111, go_sem]; try rfl) rfl ?_
  exact ⟨rfl, by go_grown⟩

set_option maxRecDepth 100000 in
set_option maxHeartbeats 1000000 in
theorem formof_4 (w : World) : Calls Tryz.prog 111 #[.int .i64 4] w fun r w' => r = .returned (.agg #[.bool false, .bool false, .bool false, .int .i64 0, .int .i64 0, .int .i64 2, .int .i64 2, .int .i64 0, .int .i64 0, .int .i64 0, .int .i64 0]) ∧ Below w.heap.size w w' := by
  go_enter Tryz.func111, Tryz.ntmps111
  go_wp2
  refine bodyPost_ret (by simp [results, Tryz.results111, go_sem]; try rfl) rfl ?_
  exact ⟨rfl, by go_grown⟩

set_option maxRecDepth 100000 in
set_option maxHeartbeats 1000000 in
theorem formof_5 (w : World) : Calls Tryz.prog 111 #[.int .i64 5] w fun r w' => r = .returned (.agg #[.bool false, .bool false, .bool false, .int .i64 0, .int .i64 0, .int .i64 2, .int .i64 2, .int .i64 0, .int .i64 0, .int .i64 0, .int .i64 0]) ∧ Below w.heap.size w w' := by
  go_enter Tryz.func111, Tryz.ntmps111
  go_wp2
  refine bodyPost_ret (by simp [results, Tryz.results111, go_sem]; try rfl) rfl ?_
  exact ⟨rfl, by go_grown⟩

set_option maxRecDepth 100000 in
set_option maxHeartbeats 1000000 in
theorem formof_6 (w : World) : Calls Tryz.prog 111 #[.int .i64 6] w fun r w' => r = .returned (.agg #[.bool false, .bool false, .bool false, .int .i64 0, .int .i64 0, .int .i64 2, .int .i64 2, .int .i64 0, .int .i64 0, .int .i64 0, .int .i64 0]) ∧ Below w.heap.size w w' := by
  go_enter Tryz.func111, Tryz.ntmps111
  go_wp2
  refine bodyPost_ret (by simp [results, Tryz.results111, go_sem]; try rfl) rfl ?_
  exact ⟨rfl, by go_grown⟩

set_option maxRecDepth 100000 in
set_option maxHeartbeats 1000000 in
theorem formof_7 (w : World) : Calls Tryz.prog 111 #[.int .i64 7] w fun r w' => r = .returned (.agg #[.bool false, .bool false, .bool false, .int .i64 0, .int .i64 0, .int .i64 0, .int .i64 0, .int .i64 1, .int .i64 1, .int .i64 0, .int .i64 0]) ∧ Below w.heap.size w w' := by
  go_enter Tryz.func111, Tryz.ntmps111
  go_wp2
  refine bodyPost_ret (by simp [results, Tryz.results111, go_sem]; try rfl) rfl ?_
  exact ⟨rfl, by go_grown⟩

set_option maxRecDepth 100000 in
set_option maxHeartbeats 1000000 in
theorem formof_8 (w : World) : Calls Tryz.prog 111 #[.int .i64 8] w fun r w' => r = .returned (.agg #[.bool false, .bool false, .bool false, .int .i64 0, .int .i64 0, .int .i64 0, .int .i64 0, .int .i64 2, .int .i64 2, .int .i64 0, .int .i64 0]) ∧ Below w.heap.size w w' := by
  go_enter Tryz.func111, Tryz.ntmps111
  go_wp2
  refine bodyPost_ret (by simp [results, Tryz.results111, go_sem]; try rfl) rfl ?_
  exact ⟨rfl, by go_grown⟩

set_option maxRecDepth 100000 in
set_option maxHeartbeats 1000000 in
theorem formof_9 (w : World) : Calls Tryz.prog 111 #[.int .i64 9] w fun r w' => r = .returned (.agg #[.bool false, .bool false, .bool false, .int .i64 0, .int .i64 0, .int .i64 0, .int .i64 0, .int .i64 2, .int .i64 2, .int .i64 0, .int .i64 0]) ∧ Below w.heap.size w w' := by
  go_enter Tryz.func111, Tryz.ntmps111
  go_wp2
  refine bodyPost_ret (by simp [results, Tryz.results111, go_sem]; try rfl) rfl ?_
  exact ⟨rfl, by go_grown⟩

set_option maxRecDepth 100000 in
set_option maxHeartbeats 1000000 in
theorem formof_10 (w : World) : Calls Tryz.prog 111 #[.int .i64 10] w fun r w' => r = .returned (.agg #[.bool false, .bool false, .bool false, .int .i64 1, .int .i64 8, .int .i64 0, .int .i64 0, .int .i64 1, .int .i64 1, .int .i64 0, .int .i64 0]) ∧ Below w.heap.size w w' := by
  go_enter Tryz.func111, Tryz.ntmps111
  go_wp2
  refine bodyPost_ret (by simp [results, Tryz.results111, go_sem]; try rfl) rfl ?_
  exact ⟨rfl, by go_grown⟩

set_option maxRecDepth 100000 in
set_option maxHeartbeats 1000000 in
theorem formof_11 (w : World) : Calls Tryz.prog 111 #[.int .i64 11] w fun r w' => r = .returned (.agg #[.bool false, .bool false, .bool true, .int .i64 0, .int .i64 0, .int .i64 0, .int .i64 0, .int .i64 1, .int .i64 1, .int .i64 0, .int .i64 0]) ∧ Below w.heap.size w w' := by
  go_enter Tryz.func111, Tryz.ntmps111
  go_wp2
  refine bodyPost_ret (by simp [results, Tryz.results111, go_sem]; try rfl) rfl ?_
  exact ⟨rfl, by go_grown⟩

set_option maxRecDepth 100000 in
set_option maxHeartbeats 1000000 in
theorem formof_12 (w : World) : Calls Tryz.prog 111 #[.int .i64 12] w fun r w' => r = .returned (.agg #[.bool false, .bool false, .bool true, .int .i64 0, .int .i64 0, .int .i64 0, .int .i64 0, .int .i64 1, .int .i64 1, .int .i64 0, .int .i64 0]) ∧ Below w.heap.size w w' := by
  go_enter Tryz.func111, Tryz.ntmps111
  go_wp2
  refine bodyPost_ret (by simp [results, Tryz.results111, go_sem]; try rfl) rfl ?_
  exact ⟨rfl, by go_grown⟩

set_option maxRecDepth 100000 in
set_option maxHeartbeats 1000000 in
theorem formof_13 (w : World) : Calls Tryz.prog 111 #[.int .i64 13] w fun r w' => r = .returned (.agg #[.bool false, .bool false, .bool true, .int .i64 0, .int .i64 0, .int .i64 0, .int .i64 0, .int .i64 1, .int .i64 1, .int .i64 0, .int .i64 0]) ∧ Below w.heap.size w w' := by
  go_enter Tryz.func111, Tryz.ntmps111
  go_wp2
  refine bodyPost_ret (by simp [results, Tryz.results111, go_sem]; try rfl) rfl ?_
  exact ⟨rfl, by go_grown⟩

set_option maxRecDepth 100000 in
set_option maxHeartbeats 1000000 in
theorem formof_14 (w : World) : Calls Tryz.prog 111 #[.int .i64 14] w fun r w' => r = .returned (.agg #[.bool false, .bool false, .bool true, .int .i64 0, .int .i64 0, .int .i64 0, .int .i64 0, .int .i64 1, .int .i64 1, .int .i64 0, .int .i64 0]) ∧ Below w.heap.size w w' := by
  go_enter Tryz.func111, Tryz.ntmps111
  go_wp2
  refine bodyPost_ret (by simp [results, Tryz.results111, go_sem]; try rfl) rfl ?_
  exact ⟨rfl, by go_grown⟩

set_option maxRecDepth 100000 in
set_option maxHeartbeats 1000000 in
theorem formof_15 (w : World) : Calls Tryz.prog 111 #[.int .i64 15] w fun r w' => r = .returned (.agg #[.bool false, .bool false, .bool true, .int .i64 0, .int .i64 0, .int .i64 0, .int .i64 0, .int .i64 2, .int .i64 2, .int .i64 0, .int .i64 0]) ∧ Below w.heap.size w w' := by
  go_enter Tryz.func111, Tryz.ntmps111
  go_wp2
  refine bodyPost_ret (by simp [results, Tryz.results111, go_sem]; try rfl) rfl ?_
  exact ⟨rfl, by go_grown⟩

set_option maxRecDepth 100000 in
set_option maxHeartbeats 1000000 in
theorem formof_16 (w : World) : Calls Tryz.prog 111 #[.int .i64 16] w fun r w' => r = .returned (.agg #[.bool false, .bool false, .bool true, .int .i64 0, .int .i64 0, .int .i64 0, .int .i64 0, .int .i64 2, .int .i64 2, .int .i64 0, .int .i64 0]) ∧ Below w.heap.size w w' := by
  go_enter Tryz.func111, Tryz.ntmps111
  go_wp2
  refine bodyPost_ret (by simp [results, Tryz.results111, go_sem]; try rfl) rfl ?_
  exact ⟨rfl, by go_grown⟩

set_option maxRecDepth 100000 in
set_option maxHeartbeats 1000000 in
theorem formof_17 (w : World) : Calls Tryz.prog 111 #[.int .i64 17] w fun r w' => r = .returned (.agg #[.bool false, .bool false, .bool true, .int .i64 0, .int .i64 0, .int .i64 0, .int .i64 0, .int .i64 0, .int .i64 0, .int .i64 1, .int .i64 1]) ∧ Below w.heap.size w w' := by
  go_enter Tryz.func111, Tryz.ntmps111
  go_wp2
  refine bodyPost_ret (by simp [results, Tryz.results111, go_sem]; try rfl) rfl ?_
  exact ⟨rfl, by go_grown⟩

set_option maxRecDepth 100000 in
set_option maxHeartbeats 1000000 in
theorem formof_18 (w : World) : Calls Tryz.prog 111 #[.int .i64 18] w fun r w' => r = .returned (.agg #[.bool false, .bool false, .bool true, .int .i64 0, .int .i64 0, .int .i64 0, .int .i64 0, .int .i64 0, .int .i64 0, .int .i64 1, .int .i64 1]) ∧ Below w.heap.size w w' := by
  go_enter Tryz.func111, Tryz.ntmps111
  go_wp2
  refine bodyPost_ret (by simp [results, Tryz.results111, go_sem]; try rfl) rfl ?_
  exact ⟨rfl, by go_grown⟩

set_option maxRecDepth 100000 in
set_option maxHeartbeats 1000000 in
theorem formof_19 (w : World) : Calls Tryz.prog 111 #[.int .i64 19] w fun r w' => r = .returned (.agg #[.bool true, .bool true, .bool false, .int .i64 1, .int .i64 8, .int .i64 0, .int .i64 0, .int .i64 1, .int .i64 1, .int .i64 0, .int .i64 0]) ∧ Below w.heap.size w w' := by
  go_enter Tryz.func111, Tryz.ntmps111
  go_wp2
  refine bodyPost_ret (by simp [results, Tryz.results111, go_sem]; try rfl) rfl ?_
  exact ⟨rfl, by go_grown⟩

set_option maxRecDepth 100000 in
set_option maxHeartbeats 1000000 in
theorem formof_20 (w : World) : Calls Tryz.prog 111 #[.int .i64 20] w fun r w' => r = .returned (.agg #[.bool true, .bool false, .bool false, .int .i64 0, .int .i64 6, .int .i64 0, .int .i64 0, .int .i64 2, .int .i64 2, .int .i64 0, .int .i64 0]) ∧ Below w.heap.size w w' := by
  go_enter Tryz.func111, Tryz.ntmps111
  go_wp2
  refine bodyPost_ret (by simp [results, Tryz.results111, go_sem]; try rfl) rfl ?_
  exact ⟨rfl, by go_grown⟩

set_option maxRecDepth 100000 in
set_option maxHeartbeats 1000000 in
theorem formof_21 (w : World) : Calls Tryz.prog 111 #[.int .i64 21] w fun r w' => r = .returned (.agg #[.bool true, .bool false, .bool false, .int .i64 0, .int .i64 6, .int .i64 0, .int .i64 0, .int .i64 2, .int .i64 2, .int .i64 0, .int .i64 0]) ∧ Below w.heap.size w w' := by
  go_enter Tryz.func111, Tryz.ntmps111
  go_wp2
  refine bodyPost_ret (by simp [results, Tryz.results111, go_sem]; try rfl) rfl ?_
  exact ⟨rfl, by go_grown⟩

set_option maxRecDepth 100000 in
set_option maxHeartbeats 1000000 in
theorem formof_22 (w : World) : Calls Tryz.prog 111 #[.int .i64 22] w fun r w' => r = .returned (.agg #[.bool false, .bool false, .bool false, .int .i64 0, .int .i64 0, .int .i64 0, .int .i64 0, .int .i64 1, .int .i64 9223372036854775807, .int .i64 0, .int .i64 0]) ∧ Below w.heap.size w w' := by
  go_enter Tryz.func111, Tryz.ntmps111
  go_wp2
  refine bodyPost_ret (by simp [results, Tryz.results111, go_sem]; try rfl) rfl ?_
  exact ⟨rfl, by go_grown⟩
theorem formof_any (k : Int) (w : World) (h : 1 ≤ k ∧ k ≤ 22) : Calls Tryz.prog 111 #[.int .i64 k] w fun r w' => r = .returned (frm k).val ∧ Below w.heap.size w w' := by
  have : k = 1 ∨ k = 2 ∨ k = 3 ∨ k = 4 ∨ k = 5 ∨ k = 6 ∨ k = 7 ∨ k = 8 ∨ k = 9 ∨ k = 10 ∨ k = 11 ∨ k = 12 ∨ k = 13 ∨ k = 14 ∨ k = 15 ∨ k = 16 ∨ k = 17 ∨ k = 18 ∨ k = 19 ∨ k = 20 ∨ k = 21 ∨ k = 22 := by omega
  rcases this with rfl | rfl | rfl | rfl | rfl | rfl | rfl | rfl | rfl | rfl | rfl | rfl | rfl | rfl | rfl | rfl | rfl | rfl | rfl | rfl | rfl | rfl
  · exact formof_1 w
  · exact formof_2 w
  · exact formof_3 w
  · exact formof_4 w
  · exact formof_5 w
  · exact formof_6 w
  · exact formof_7 w
  · exact formof_8 w
  · exact formof_9 w
  · exact formof_10 w
  · exact formof_11 w
  · exact formof_12 w
  · exact formof_13 w
  · exact formof_14 w
  · exact formof_15 w
  · exact formof_16 w
  · exact formof_17 w
  · exact formof_18 w
  · exact formof_19 w
  · exact formof_20 w
  · exact formof_21 w
  · exact formof_22 w

end Go.Proofs.YtfajjphfjilpnaaGreat
