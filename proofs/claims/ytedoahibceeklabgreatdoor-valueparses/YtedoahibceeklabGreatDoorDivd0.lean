/- The plain arithmetic of dividing bit by bit. No program in sight. -/
import Derived.Test.YtedoahibceeklabGreatDoorMath
namespace Go.Proofs.YtedoahibceeklabGreatDoor

/-- One bit more: what is left, and how often. -/
theorem bit_step {a b x bit : Int} (hb : 0 < b) (hx : a = 2 * x + bit) (h0 : 0 ≤ bit) (h1 : bit ≤ 1) :
    (b ≤ 2 * (x % b) + bit → a % b = 2 * (x % b) + bit - b ∧ a / b = 2 * (x / b) + 1) ∧ (2 * (x % b) + bit < b → a % b = 2 * (x % b) + bit ∧ a / b = 2 * (x / b)) := by
  have e := Int.mul_ediv_add_emod x b
  have m0 := Int.emod_nonneg x (show b ≠ 0 by omega)
  have m1 := Int.emod_lt_of_pos x hb
  generalize x / b = q at *
  generalize x % b = r at *
  constructor
  · intro h
    have ha : a = (2 * r + bit - b) + b * (2 * q + 1) := by rw [hx, ← e]; grind
    refine ⟨?_, ?_⟩
    · rw [ha, Int.add_mul_emod_self_left]; exact Int.emod_eq_of_lt (by omega) (by omega)
    · rw [ha, Int.add_mul_ediv_left _ _ (by omega), Int.ediv_eq_zero_of_lt (by omega) (by omega)]; omega
  · intro h
    have ha : a = (2 * r + bit) + b * (2 * q) := by rw [hx, ← e]; grind
    refine ⟨?_, ?_⟩
    · rw [ha, Int.add_mul_emod_self_left]; exact Int.emod_eq_of_lt (by omega) (by omega)
    · rw [ha, Int.add_mul_ediv_left _ _ (by omega), Int.ediv_eq_zero_of_lt (by omega) (by omega)]; omega

theorem pow_succ_i (k : Nat) : (2 : Int) ^ (k + 1) = 2 ^ k * 2 := Int.pow_succ 2 k
theorem pow_pos_i (k : Nat) : (0 : Int) < 2 ^ k := Int.pow_pos (by decide)

theorem half_step (a : Int) (k : Nat) : a / 2 ^ k = 2 * (a / 2 ^ (k + 1)) + a / 2 ^ k % 2 := by
  rw [pow_succ_i, ← Int.ediv_ediv_of_nonneg (Int.le_of_lt (pow_pos_i k))]
  omega

/-- The bit of a number is that of its digit: c is 2^(32 j), g the digit. -/
theorem bit_of (y : Int) (s : Nat) (hs : s < 32) : y / 2 ^ s % 2 = y % 4294967296 / 2 ^ s % 2 := by
  have hB : (4294967296 : Int) = 2 ^ s * (2 * 2 ^ (31 - s)) := by
    have : (2 : Int) ^ s * (2 * 2 ^ (31 - s)) = 2 ^ (s + (1 + (31 - s))) := by rw [Int.pow_add, Int.pow_add]; rfl
    rw [this, show s + (1 + (31 - s)) = 32 by omega]; rfl
  have hp := pow_pos_i s
  have e := Int.mul_ediv_add_emod y 4294967296
  generalize y / 4294967296 = q at *
  generalize y % 4294967296 = r at *
  have : y / 2 ^ s = r / 2 ^ s + 2 * (2 ^ (31 - s) * q) := by
    rw [← e, hB]
    rw [show 2 ^ s * (2 * 2 ^ (31 - s)) * q + r = r + 2 ^ s * (2 * (2 ^ (31 - s) * q)) by grind]
    exact Int.add_mul_ediv_left _ _ (by omega)
  rw [this]; omega

/-- A digit that is a multiple of 2^(s+1) has room for 2^s, which leaves a multiple of 2^s. -/
theorem dig_room (t : Int) (s : Nat) (hs : s < 32) (h0 : 0 ≤ t) (h1 : t < 4294967296) (hd : t % 2 ^ (s + 1) = 0) : t + 2 ^ s < 4294967296 ∧ (t + 2 ^ s) % 2 ^ s = 0 ∧ t % 2 ^ s = 0 := by
  have hp := pow_pos_i s
  have hB : (4294967296 : Int) = 2 ^ (s + 1) * 2 ^ (31 - s) := by
    rw [← Int.pow_add, show s + 1 + (31 - s) = 32 by omega]; rfl
  obtain ⟨c, hc⟩ := Int.dvd_of_emod_eq_zero hd
  have hp1 := pow_pos_i (s + 1)
  have hlt : c < 2 ^ (31 - s) := by
    apply Int.lt_of_not_ge; intro hge
    have := Int.mul_le_mul_of_nonneg_left hge (Int.le_of_lt hp1)
    omega
  have hle : 2 ^ (s + 1) * (c + 1) ≤ 2 ^ (s + 1) * 2 ^ (31 - s) := Int.mul_le_mul_of_nonneg_left (by omega) (Int.le_of_lt hp1)
  have e1 : (2 : Int) ^ (s + 1) * (c + 1) = t + 2 ^ (s + 1) := by rw [hc]; grind
  have e2 := pow_succ_i s
  have e3 : t = 2 ^ s * (2 * c) := by rw [hc, e2]; grind
  refine ⟨by omega, ?_, ?_⟩
  · rw [e3, show (2 : Int) ^ s * (2 * c) + 2 ^ s = 2 ^ s * (2 * c + 1) by grind]; exact Int.mul_emod_right _ _
  · rw [e3]; exact Int.mul_emod_right _ _

end Go.Proofs.YtedoahibceeklabGreatDoor
