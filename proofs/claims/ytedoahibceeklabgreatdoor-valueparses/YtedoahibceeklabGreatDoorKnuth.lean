/- The plain arithmetic of long division, digit by digit, base 2^32. No program in sight. -/
namespace Go.Proofs.YtedoahibceeklabGreatDoor

/-- One digit: u below Y, Y = y1 * 2^32 + y0 with y1 at least 2^31, d a digit: what q and r are while q is lowered to the true digit. -/
theorem kn_id {u d q r y1 y0 Y : Int} (hY : Y = y1 * 4294967296 + y0) (hq : q * y1 + r = u) : u * 4294967296 + d = q * Y + (r * 4294967296 + d - q * y0) := by
  subst hY; subst hq; grind

theorem kn_lt {u d Y : Int} (hu : u < Y) (hd : d < 4294967296) (hY : 0 < Y) : (u * 4294967296 + d) / Y < 4294967296 := by
  rw [Int.ediv_lt_iff_lt_mul hY]; omega

theorem kn_nonneg {u d Y : Int} (hu : 0 ≤ u) (hd : 0 ≤ d) (hY : 0 < Y) : 0 ≤ (u * 4294967296 + d) / Y := Int.ediv_nonneg (by omega) (by omega)

theorem kn_down {u d q r y1 y0 Y : Int} (hY : Y = y1 * 4294967296 + y0) (h0 : 0 < Y) (hq : q * y1 + r = u) (h : r * 4294967296 + d < q * y0) : (u * 4294967296 + d) / Y ≤ q - 1 := by
  have e := kn_id (d := d) hY hq
  have : (u * 4294967296 + d) / Y < q := by rw [Int.ediv_lt_iff_lt_mul h0]; omega
  omega

theorem kn_stop {u d q r y1 y0 Y : Int} (hY : Y = y1 * 4294967296 + y0) (h0 : 0 < Y) (hq : q * y1 + r = u) (h : q * y0 ≤ r * 4294967296 + d) : q ≤ (u * 4294967296 + d) / Y := by
  have e := kn_id (d := d) hY hq
  rw [Int.le_ediv_iff_mul_le h0]; omega

theorem kn_first {u d y1 y0 Y : Int} (hY : Y = y1 * 4294967296 + y0) (h1 : 2147483648 ≤ y1) (hy0 : 0 ≤ y0) (hy0' : y0 < 4294967296) (hu : 0 ≤ u) (huY : u < Y) (hd : 0 ≤ d) (hd' : d < 4294967296) :
    0 ≤ u / y1 ∧ u / y1 ≤ 4294967297 ∧ (u * 4294967296 + d) / Y ≤ u / y1 ∧ u / y1 * y1 + u % y1 = u ∧ 0 ≤ u % y1 ∧ u % y1 < y1 := by
  have hp : 0 < y1 := by omega
  have hm := Int.emod_lt_of_pos u hp
  have hn := Int.emod_nonneg u (show y1 ≠ 0 by omega)
  have e : u / y1 * y1 + u % y1 = u := by have := Int.mul_ediv_add_emod u y1; grind
  have hq0 : 0 ≤ u / y1 := Int.ediv_nonneg hu (by omega)
  refine ⟨hq0, ?_, ?_, e, hn, hm⟩
  · have : u / y1 < 4294967298 := by rw [Int.ediv_lt_iff_lt_mul hp]; omega
    omega
  · have h0 : 0 < Y := by omega
    have hd2 : (u * 4294967296 + d) / Y < u / y1 + 1 := by
      rw [Int.ediv_lt_iff_lt_mul h0]
      have e2 := kn_id (d := d) hY e
      have e3 : (u / y1 + 1) * Y = u / y1 * Y + Y := by grind
      have e4 : 0 ≤ u / y1 * y0 := Int.mul_nonneg hq0 hy0
      rw [e3, e2]; omega
    omega

/-- Where the rest has passed a digit the guess is right. -/
theorem kn_break {u d q r y1 y0 Y : Int} (hY : Y = y1 * 4294967296 + y0) (h0 : 0 < Y) (hq : q * y1 + r = u) (hr : 4294967296 ≤ r) (hq' : q ≤ 4294967296) (hy0 : 0 ≤ y0) (hy0' : y0 < 4294967296) (hd : 0 ≤ d) : q ≤ (u * 4294967296 + d) / Y := by
  refine kn_stop hY h0 hq ?_
  have h1 : q * y0 ≤ 4294967296 * y0 := Int.mul_le_mul_of_nonneg_right hq' hy0
  omega

theorem kn_mul_bd {q y0 : Int} (h0 : 0 ≤ q) (h1 : q < 4294967296) (hy0 : 0 ≤ y0) (hy0' : y0 < 4294967296) : 0 ≤ q * y0 ∧ q * y0 ≤ 18446744073709551615 := by
  refine ⟨Int.mul_nonneg h0 hy0, ?_⟩
  have h2 : q * y0 ≤ 4294967295 * y0 := Int.mul_le_mul_of_nonneg_right (by omega) hy0
  omega

/-- The whole of two digits. -/
theorem kn_two {u a b Y : Int} (hY : 0 < Y) (_hb : 0 ≤ b) (_hb' : b < 4294967296) :
    (u * 18446744073709551616 + (a * 4294967296 + b)) / Y = (u * 4294967296 + a) / Y * 4294967296 + ((u * 4294967296 + a) % Y * 4294967296 + b) / Y ∧
    (u * 18446744073709551616 + (a * 4294967296 + b)) % Y = ((u * 4294967296 + a) % Y * 4294967296 + b) % Y := by
  have e : u * 18446744073709551616 + (a * 4294967296 + b) = ((u * 4294967296 + a) % Y * 4294967296 + b) + Y * ((u * 4294967296 + a) / Y * 4294967296) := by
    have := Int.mul_ediv_add_emod (u * 4294967296 + a) Y
    grind
  rw [e]
  constructor
  · rw [Int.add_mul_ediv_left _ _ (by omega)]; omega
  · rw [Int.add_mul_emod_self_left]

/-- A division is the same with both sides multiplied. -/
theorem kn_scale (x y p : Int) (hp : 0 < p) : x * p / (y * p) = x / y ∧ (x * p) % (y * p) / p = x % y := by
  constructor
  · exact Int.mul_ediv_mul_of_pos_left x y hp
  · rw [Int.mul_comm x p, Int.mul_comm y p, Int.mul_emod_mul_of_pos x y hp, Int.mul_ediv_cancel_left _ (by omega)]

end Go.Proofs.YtedoahibceeklabGreatDoor
