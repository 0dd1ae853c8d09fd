/- Numbers of 128 bits as rat holds them, in two words: times, plus, minus, lower. -/
import Derived.Test.YtedoahibceeklabGreatDoorOf
import Derived.Test.YtedoahibceeklabGreatDoorShelf
namespace Go.Proofs.YtedoahibceeklabGreatDoor
open Go.RowKit Go.Shelf

/-- The two words of a number of 128 bits. -/
def hi (x : Int) : Int := x / 18446744073709551616
def lo (x : Int) : Int := x % 18446744073709551616
theorem lo_bd (x : Int) : 0 ≤ lo x ∧ lo x < 18446744073709551616 := by unfold lo; omega
theorem hi_bd (x : Int) (h0 : 0 ≤ x) (h1 : x < 340282366920938463463374607431768211456) : 0 ≤ hi x ∧ hi x < 18446744073709551616 := by unfold hi; omega
theorem hi_lo (x : Int) : hi x * 18446744073709551616 + lo x = x := by unfold hi lo; omega

theorem mul64 (x y : Int) (w : World) (hx : 0 ≤ x) (hx' : x < 18446744073709551616) (hy : 0 ≤ y) (hy' : y < 18446744073709551616) :
    Calls Tryz.prog 116 #[.int .u64 x, .int .u64 y] w fun e w' => e = .returned (.tuple #[.int .u64 (hi (x * y)), .int .u64 (lo (x * y))]) ∧ w' = w := by
  obtain ⟨x, rfl⟩ := Int.eq_ofNat_of_zero_le hx
  obtain ⟨y, rfl⟩ := Int.eq_ofNat_of_zero_le hy
  refine (Tryz.bits_Mul64 x y (by omega) (by omega) w).mono ?_
  rintro e w' ⟨rfl, rfl⟩
  refine ⟨?_, rfl⟩
  unfold hi lo
  simp

theorem times_any (x y : Int) (w : World) (hx : 0 ≤ x) (hx' : x < 18446744073709551616) (hy : 0 ≤ y) (hy' : y < 18446744073709551616) :
    Calls Tryz.prog 91 #[.int .u64 x, .int .u64 y] w fun e w' => e = .returned (.agg #[.int .u64 (hi (x * y)), .int .u64 (lo (x * y))]) ∧ Below w.heap.size w w' := by
  go_enter Tryz.func91, Tryz.ntmps91
  go_wp2_with (first
    | (go_at_call 116; refine (mul64 x y _ hx hx' hy hy').mono ?_; rintro e w1 ⟨rfl, rfl⟩))
  go_returns
  exact ⟨rfl, by go_grown⟩

theorem add64 (x y c : Int) (hx : 0 ≤ x) (hy : 0 ≤ y) (hc0 : 0 ≤ c) (hc : c ≤ 1) (w : World) : (callFunc 128 #[.int .u64 x, .int .u64 y, .int .u64 c]).run Tryz.prog w =
    .ok (.value (.tuple #[.int .u64 (lo (x + y + c)), .int .u64 (hi (x + y + c))])) w := by
  obtain ⟨x, rfl⟩ := Int.eq_ofNat_of_zero_le hx
  obtain ⟨y, rfl⟩ := Int.eq_ofNat_of_zero_le hy
  obtain ⟨c, rfl⟩ := Int.eq_ofNat_of_zero_le hc0
  refine (Any7.bits_Add64 Tryz.lays25 x y c (by omega) w).trans ?_
  unfold hi lo
  congr 5 <;> omega

/-- What is borrowed. -/
def bor (x y : Int) : Int := if x < y then 1 else 0
theorem bor_bd (x y : Int) : 0 ≤ bor x y ∧ bor x y ≤ 1 := by unfold bor; split <;> omega

theorem sub64 (x y b : Int) (hx : 0 ≤ x) (hy : 0 ≤ y) (hy' : y < 18446744073709551616) (hb0 : 0 ≤ b) (hb : b ≤ 1) (w : World) : (callFunc 129 #[.int .u64 x, .int .u64 y, .int .u64 b]).run Tryz.prog w =
    .ok (.value (.tuple #[.int .u64 (lo (x - y - b)), .int .u64 (bor x (y + b))])) w := by
  obtain ⟨x, rfl⟩ := Int.eq_ofNat_of_zero_le hx
  obtain ⟨y, rfl⟩ := Int.eq_ofNat_of_zero_le hy
  obtain ⟨b, rfl⟩ := Int.eq_ofNat_of_zero_le hb0
  have e1 : (((x + 18446744073709551616 - y - b) % 18446744073709551616 : Nat) : Int) = lo ((x : Int) - y - b) := by unfold lo; omega
  have e2 : ((if x < y + b then 1 else 0 : Nat) : Int) = bor (x : Int) (y + b) := by unfold bor; split <;> split <;> omega
  rw [← e1, ← e2]
  exact Any7.bits_Sub64 Tryz.lays26 x y b (by omega) w

theorem add64_0 (x y : Int) (hx : 0 ≤ x) (hy : 0 ≤ y) (w : World) : (callFunc 128 #[.int .u64 x, .int .u64 y, .int .u64 0]).run Tryz.prog w =
    .ok (.value (.tuple #[.int .u64 (lo (x + y)), .int .u64 (hi (x + y))])) w := by
  simpa using add64 x y 0 hx hy (Int.le_refl 0) (by decide) w
theorem sub64_0 (x y : Int) (hx : 0 ≤ x) (hy : 0 ≤ y) (hy' : y < 18446744073709551616) (w : World) : (callFunc 129 #[.int .u64 x, .int .u64 y, .int .u64 0]).run Tryz.prog w =
    .ok (.value (.tuple #[.int .u64 (lo (x - y)), .int .u64 (bor x y)])) w := by
  simpa using sub64 x y 0 hx hy hy' (Int.le_refl 0) (by decide) w

theorem plus_raw (ah al bh bl : Int) (w : World) (a1 : 0 ≤ ah) (b1 : 0 ≤ al) (c1 : 0 ≤ bh) (d1 : 0 ≤ bl) (b2 : al < 18446744073709551616) (d2 : bl < 18446744073709551616) :
    Calls Tryz.prog 114 #[.agg #[.int .u64 ah, .int .u64 al], .agg #[.int .u64 bh, .int .u64 bl]] w fun e w' =>
      e = .returned (.agg #[.int .u64 (lo (ah + bh + hi (al + bl))), .int .u64 (lo (al + bl))]) ∧ Below w.heap.size w w' := by
  have k0 : 0 ≤ hi (al + bl) := by unfold hi; omega
  have k1 : hi (al + bl) ≤ 1 := by unfold hi; omega
  go_enter Tryz.func114, Tryz.ntmps114
  go_wp2_with (first | simp only [add64_0 al bl b1 d1] | simp only [add64 ah bh _ a1 c1 k0 k1])
  go_returns
  exact ⟨rfl, by go_grown⟩

theorem minus_raw (ah al bh bl : Int) (w : World) (a1 : 0 ≤ ah) (b1 : 0 ≤ al) (c1 : 0 ≤ bh) (d1 : 0 ≤ bl) (c2 : bh < 18446744073709551616) (d2 : bl < 18446744073709551616) :
    Calls Tryz.prog 115 #[.agg #[.int .u64 ah, .int .u64 al], .agg #[.int .u64 bh, .int .u64 bl]] w fun e w' =>
      e = .returned (.agg #[.int .u64 (lo (ah - bh - bor al bl)), .int .u64 (lo (al - bl))]) ∧ Below w.heap.size w w' := by
  obtain ⟨k0, k1⟩ := bor_bd al bl
  go_enter Tryz.func115, Tryz.ntmps115
  go_wp2_with (first | simp only [sub64_0 al bl b1 d1 d2] | simp only [sub64 ah bh _ a1 c1 c2 k0 k1])
  go_returns
  exact ⟨rfl, by go_grown⟩

theorem ret_wide {a b a' b' : Int} (h1 : a = a') (h2 : b = b') : Ending.returned (.agg #[.int .u64 a, .int .u64 b]) = Ending.returned (.agg #[.int .u64 a', .int .u64 b']) := by rw [h1, h2]

theorem plus_any (x y : Int) (w : World) (hx : 0 ≤ x) (hy : 0 ≤ y) (h : x + y < 340282366920938463463374607431768211456) :
    Calls Tryz.prog 114 #[.agg #[.int .u64 (hi x), .int .u64 (lo x)], .agg #[.int .u64 (hi y), .int .u64 (lo y)]] w fun e w' =>
      e = .returned (.agg #[.int .u64 (hi (x + y)), .int .u64 (lo (x + y))]) ∧ Below w.heap.size w w' := by
  have b1 := lo_bd x; have b2 := lo_bd y; have b3 := hi_bd x hx (by omega); have b4 := hi_bd y hy (by omega)
  refine (plus_raw _ _ _ _ w b3.1 b1.1 b4.1 b2.1 b1.2 b2.2).mono ?_
  rintro e w' ⟨rfl, hb⟩
  exact ⟨ret_wide (by unfold hi lo; omega) (by unfold lo; omega), hb⟩

theorem minus_any (x y : Int) (w : World) (hy : 0 ≤ y) (hxy : y ≤ x) (h : x < 340282366920938463463374607431768211456) :
    Calls Tryz.prog 115 #[.agg #[.int .u64 (hi x), .int .u64 (lo x)], .agg #[.int .u64 (hi y), .int .u64 (lo y)]] w fun e w' =>
      e = .returned (.agg #[.int .u64 (hi (x - y)), .int .u64 (lo (x - y))]) ∧ Below w.heap.size w w' := by
  have b1 := lo_bd x; have b2 := lo_bd y; have b3 := hi_bd x (by omega) (by omega); have b4 := hi_bd y hy (by omega)
  refine (minus_raw _ _ _ _ w b3.1 b1.1 b4.1 b2.1 b4.2 b2.2).mono ?_
  rintro e w' ⟨rfl, hb⟩
  exact ⟨ret_wide (by unfold bor; split <;> (unfold hi lo at *; omega)) (by unfold lo; omega), hb⟩

theorem lower_raw (ah al bh bl : Int) (w : World) :
    Calls Tryz.prog 94 #[.agg #[.int .u64 ah, .int .u64 al], .agg #[.int .u64 bh, .int .u64 bl]] w fun e w' =>
      e = .returned (.bool (if ah = bh then decide (al < bl) else decide (ah < bh))) ∧ Below w.heap.size w w' := by
  by_cases h : ah = bh
  · subst h
    go_enter Tryz.func94, Tryz.ntmps94
    go_wp2
    go_ret
    exact ⟨by simp, by go_grown⟩
  · have h' : (ah != bh) = true := by simpa using h
    go_enter Tryz.func94, Tryz.ntmps94
    go_wp2
    go_ret
    exact ⟨by simp, by go_grown⟩

theorem lower_any (x y : Int) (w : World) :
    Calls Tryz.prog 94 #[.agg #[.int .u64 (hi x), .int .u64 (lo x)], .agg #[.int .u64 (hi y), .int .u64 (lo y)]] w fun e w' =>
      e = .returned (.bool (decide (x < y))) ∧ Below w.heap.size w w' := by
  refine (lower_raw _ _ _ _ w).mono ?_
  rintro e w' ⟨rfl, hb⟩
  refine ⟨?_, hb⟩
  have e : (if hi x = hi y then decide (lo x < lo y) else decide (hi x < hi y)) = decide (x < y) := by
    unfold hi lo
    split <;> (rw [decide_eq_decide]; omega)
  rw [e]

end Go.Proofs.YtedoahibceeklabGreatDoor
