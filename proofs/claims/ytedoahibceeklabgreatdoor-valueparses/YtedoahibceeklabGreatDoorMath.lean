/- The plain mathematics of exact fractions of 64 bits: sizes, greatest common divisors, least forms. No program in sight. -/
namespace Go.Proofs.YtedoahibceeklabGreatDoor

/-- How far a number is from 0. -/
def sz (n : Int) : Int := (n.natAbs : Int)
/-- The greatest common divisor of two numbers from 0 on. -/
def gc (a b : Int) : Int := ((Nat.gcd a.toNat b.toNat : Nat) : Int)

theorem sz_of_neg {n : Int} (h : n < 0) : sz n = -n := by unfold sz; omega
theorem sz_of_nonneg {n : Int} (h : 0 ≤ n) : sz n = n := by unfold sz; omega
theorem sz_nonneg (n : Int) : 0 ≤ sz n := by unfold sz; omega
theorem sz_le {n : Int} (h1 : -9223372036854775808 ≤ n) (h2 : n ≤ 9223372036854775807) : sz n ≤ 9223372036854775808 := by unfold sz; omega
theorem gc_nonneg (a b : Int) : 0 ≤ gc a b := by unfold gc; omega
theorem gc_zero (a : Int) (h : 0 ≤ a) : gc a 0 = a := by unfold gc; simp; omega
theorem gc_step (a b : Int) (ha : 0 ≤ a) (hb : 0 < b) : gc b (a % b) = gc a b := by
  unfold gc
  have e : (a % b).toNat = a.toNat % b.toNat := by
    obtain ⟨x, rfl⟩ := Int.eq_ofNat_of_zero_le ha
    obtain ⟨y, rfl⟩ := Int.eq_ofNat_of_zero_le (Int.le_of_lt hb)
    simp [← Int.natCast_emod]
  rw [e, Nat.gcd_comm b.toNat, ← Nat.gcd_rec, Nat.gcd_comm]

/-- A number by its sign and size. -/
def sg (b : Bool) (n : Int) : Int := if b then -n else n
/-- Does a fraction in its least form fit 64 bits? What is told of it: N, D, the error. -/
def okF (p q : Int) : Bool := decide (-9223372036854775808 ≤ p ∧ p ≤ 9223372036854775807 ∧ q ≤ 9223372036854775807)
def outN (p q : Int) : Int := if okF p q then p else 0
def outD (p q : Int) : Int := if okF p q then q else 0
def outE (p q : Int) : Int := if okF p q then 0 else 10

/-- p / q, q above 0, in its least form, if that fits. -/
def rN (p q : Int) : Int := outN (p / gc (sz p) q) (q / gc (sz p) q)
def rD (p q : Int) : Int := outD (p / gc (sz p) q) (q / gc (sz p) q)
def rE (p q : Int) : Int := outE (p / gc (sz p) q) (q / gc (sz p) q)

theorem sz_sg (b : Bool) (n : Int) : sz (sg b n) = sz n := by unfold sz sg; split <;> omega
theorem gc_pos (a b : Int) (hb : 0 < b) : 0 < gc a b := by
  unfold gc
  have : 0 < Nat.gcd a.toNat b.toNat := Nat.gcd_pos_of_pos_right _ (by omega)
  omega
theorem gc_le (a b : Int) (hb : 0 < b) : gc a b ≤ b := by
  unfold gc
  have : Nat.gcd a.toNat b.toNat ≤ b.toNat := Nat.gcd_le_right _ (by omega)
  omega
theorem gc_dvd_left (a b : Int) (ha : 0 ≤ a) : gc a b ∣ a := by
  unfold gc
  have h := Int.natCast_dvd_natCast.2 (Nat.gcd_dvd_left a.toNat b.toNat)
  have e : ((a.toNat : Nat) : Int) = a := by omega
  rwa [e] at h
theorem gc_dvd_right (a b : Int) (hb : 0 ≤ b) : gc a b ∣ b := by
  unfold gc
  have h := Int.natCast_dvd_natCast.2 (Nat.gcd_dvd_right a.toNat b.toNat)
  have e : ((b.toNat : Nat) : Int) = b := by omega
  rwa [e] at h
theorem sg_div (b : Bool) (n g : Int) (h : g ∣ n) : sg b (n / g) = sg b n / g := by
  unfold sg; split
  · exact (Int.neg_ediv_of_dvd h).symm
  · rfl
theorem sg_sz (n : Int) (b : Bool) : sg (decide (n < 0) != b) (sz n) = sg b n := by
  unfold sg sz
  by_cases h : n < 0 <;> cases b <;> simp [h] <;> omega
theorem div_le_self (a g : Int) (ha : 0 ≤ a) (hg : 0 < g) : a / g ≤ a := by
  have h1 := Int.ediv_mul_le a (show g ≠ 0 by omega)
  have h2 : 0 ≤ a / g := Int.ediv_nonneg ha (by omega)
  have h3 : a / g * 1 ≤ a / g * g := Int.mul_le_mul_of_nonneg_left (by omega) h2
  omega

end Go.Proofs.YtedoahibceeklabGreatDoor
