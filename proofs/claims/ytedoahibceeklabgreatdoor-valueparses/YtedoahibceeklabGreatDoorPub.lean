/- What rat's calls tell of any numbers: Of, Add, Sub, Mul, Div, Compare. -/
import Derived.Test.YtedoahibceeklabGreatDoorAdd
import Derived.Test.YtedoahibceeklabGreatDoorMul
import Derived.Test.YtedoahibceeklabGreatDoorSub
import Derived.Test.YtedoahibceeklabGreatDoorCmp
namespace Go.Proofs.YtedoahibceeklabGreatDoor
open Go.RowKit Go.Shelf

/-- What a call tells: N, D, the error: if both fractions may be that of p / q, else nothing and ErrArg. -/
def both (a b c d : Int) : Bool := mayB a b && mayB c d
def tN (a b c d p q : Int) : Int := if both a b c d then rN p q else 0
def tD (a b c d p q : Int) : Int := if both a b c d then rD p q else 0
def tE (a b c d p q : Int) : Int := if both a b c d then rE p q else 1

theorem both_true {a b c d : Int} : both a b c d = true ↔ mayB a b = true ∧ mayB c d = true := by simp [both]

theorem t_yes {a b c d : Int} (h1 : mayB a b = true) (h2 : mayB c d = true) (p q : Int) : tN a b c d p q = rN p q ∧ tD a b c d p q = rD p q ∧ tE a b c d p q = rE p q := by
  simp [tN, tD, tE, both, h1, h2]
theorem t_no1 {a b c d : Int} (h1 : mayB a b = false) (p q : Int) : tN a b c d p q = 0 ∧ tD a b c d p q = 0 ∧ tE a b c d p q = 1 := by
  simp [tN, tD, tE, both, h1]
theorem t_no2 {a b c d : Int} (h2 : mayB c d = false) (p q : Int) : tN a b c d p q = 0 ∧ tD a b c d p q = 0 ∧ tE a b c d p q = 1 := by
  simp [tN, tD, tE, both, h2]

theorem add_all (a b c d : Int) (w : World) (ha : -9223372036854775808 ≤ a) (ha' : a ≤ 9223372036854775807) (hb : -9223372036854775808 ≤ b) (hb' : b ≤ 9223372036854775807) (hc : -9223372036854775808 ≤ c) (hc' : c ≤ 9223372036854775807) (hd : -9223372036854775808 ≤ d) (hd' : d ≤ 9223372036854775807) :
    Calls Tryz.prog 50 #[.agg #[.int .i64 a, .int .i64 b], .agg #[.int .i64 c, .int .i64 d]] w fun e w' => e = .returned (.tuple #[.agg #[.int .i64 (tN a b c d (a * d + c * b) (b * d)), .int .i64 (tD a b c d (a * d + c * b) (b * d))], .int .i64 (tE a b c d (a * d + c * b) (b * d))]) ∧ Below w.heap.size w w' := by
  cases h1 : mayB a b
  · obtain ⟨e1, e2, e3⟩ := t_no1 (c := c) (d := d) h1 (a * d + c * b) (b * d)
    rw [e1, e2, e3]; exact add_no1 a b c d w ha ha' hb hb' hc hc' hd hd' h1
  · cases h2 : mayB c d
    · obtain ⟨e1, e2, e3⟩ := t_no2 (a := a) (b := b) h2 (a * d + c * b) (b * d)
      rw [e1, e2, e3]; exact add_no2 a b c d w ha ha' hb hb' hc hc' hd hd' h1 h2
    · obtain ⟨e1, e2, e3⟩ := t_yes h1 h2 (a * d + c * b) (b * d)
      rw [e1, e2, e3]; exact add_yes a b c d w ha ha' hb hb' hc hc' hd hd' h1 h2

theorem sub_all (a b c d : Int) (w : World) (ha : -9223372036854775808 ≤ a) (ha' : a ≤ 9223372036854775807) (hb : -9223372036854775808 ≤ b) (hb' : b ≤ 9223372036854775807) (hc : -9223372036854775808 ≤ c) (hc' : c ≤ 9223372036854775807) (hd : -9223372036854775808 ≤ d) (hd' : d ≤ 9223372036854775807) :
    Calls Tryz.prog 51 #[.agg #[.int .i64 a, .int .i64 b], .agg #[.int .i64 c, .int .i64 d]] w fun e w' => e = .returned (.tuple #[.agg #[.int .i64 (tN a b c d (a * d - c * b) (b * d)), .int .i64 (tD a b c d (a * d - c * b) (b * d))], .int .i64 (tE a b c d (a * d - c * b) (b * d))]) ∧ Below w.heap.size w w' := by
  cases h1 : mayB a b
  · obtain ⟨e1, e2, e3⟩ := t_no1 (c := c) (d := d) h1 (a * d - c * b) (b * d)
    rw [e1, e2, e3]; exact sub_no1 a b c d w ha ha' hb hb' hc hc' hd hd' h1
  · cases h2 : mayB c d
    · obtain ⟨e1, e2, e3⟩ := t_no2 (a := a) (b := b) h2 (a * d - c * b) (b * d)
      rw [e1, e2, e3]; exact sub_no2 a b c d w ha ha' hb hb' hc hc' hd hd' h1 h2
    · obtain ⟨e1, e2, e3⟩ := t_yes h1 h2 (a * d - c * b) (b * d)
      rw [e1, e2, e3]; exact sub_yes a b c d w ha ha' hb hb' hc hc' hd hd' h1 h2

theorem mul_all (a b c d : Int) (w : World) (ha : -9223372036854775808 ≤ a) (ha' : a ≤ 9223372036854775807) (hb : -9223372036854775808 ≤ b) (hb' : b ≤ 9223372036854775807) (hc : -9223372036854775808 ≤ c) (hc' : c ≤ 9223372036854775807) (hd : -9223372036854775808 ≤ d) (hd' : d ≤ 9223372036854775807) :
    Calls Tryz.prog 52 #[.agg #[.int .i64 a, .int .i64 b], .agg #[.int .i64 c, .int .i64 d]] w fun e w' => e = .returned (.tuple #[.agg #[.int .i64 (tN a b c d (a * c) (b * d)), .int .i64 (tD a b c d (a * c) (b * d))], .int .i64 (tE a b c d (a * c) (b * d))]) ∧ Below w.heap.size w w' := by
  cases h1 : mayB a b
  · obtain ⟨e1, e2, e3⟩ := t_no1 (c := c) (d := d) h1 (a * c) (b * d)
    rw [e1, e2, e3]; exact mul_no1 a b c d w ha ha' hb hb' hc hc' hd hd' h1
  · cases h2 : mayB c d
    · obtain ⟨e1, e2, e3⟩ := t_no2 (a := a) (b := b) h2 (a * c) (b * d)
      rw [e1, e2, e3]; exact mul_no2 a b c d w ha ha' hb hb' hc hc' hd hd' h1 h2
    · obtain ⟨e1, e2, e3⟩ := t_yes h1 h2 (a * c) (b * d)
      rw [e1, e2, e3]; exact mul_yes a b c d w ha ha' hb hb' hc hc' hd hd' h1 h2

theorem may_zero {d : Int} (h : mayB 0 d = true) : d = 1 := by
  obtain ⟨h1, h2⟩ := may_of h
  have : d.toNat = 1 := by simpa [Nat.Coprime] using h2
  omega
theorem may_01 : mayB 0 1 = true := by decide +kernel

theorem less_val (a b c d : Int) (hb : 0 < b) (hd : 0 < d) : lessB (decide (a < 0)) (sz a) b (decide (c < 0)) (sz c) d = decide (a * d < c * b) := by
  unfold lessB
  by_cases h1 : a < 0 <;> by_cases h2 : c < 0
  · rw [sz_of_neg h1, sz_of_neg h2]
    simp [h1, h2, Int.neg_mul]
  · have e1 : a * d < 0 := Int.mul_neg_of_neg_of_pos h1 hd
    have e2 : 0 ≤ c * b := Int.mul_nonneg (by omega) (by omega)
    simp [h1, h2]; omega
  · have e1 : 0 ≤ a * d := Int.mul_nonneg (by omega) (by omega)
    have e2 : c * b < 0 := Int.mul_neg_of_neg_of_pos h2 hb
    simp [h1, h2]; omega
  · rw [sz_of_nonneg (by omega), sz_of_nonneg (by omega)]
    simp [h1, h2]

/-- Two fractions that may be are of one worth only if they are the same. -/
theorem may_unique {a b c d : Int} (h1 : mayB a b = true) (h2 : mayB c d = true) (h : a * d = c * b) : a = c ∧ b = d := by
  obtain ⟨p1, c1⟩ := may_of h1
  obtain ⟨p2, c2⟩ := may_of h2
  have hn : a.natAbs * d.toNat = c.natAbs * b.toNat := by
    have := congrArg Int.natAbs h
    rw [Int.natAbs_mul, Int.natAbs_mul] at this
    rwa [show d.natAbs = d.toNat by omega, show b.natAbs = b.toNat by omega] at this
  have d1 : b.toNat ∣ d.toNat := Nat.Coprime.dvd_of_dvd_mul_left c1.symm ⟨c.natAbs, by rw [hn, Nat.mul_comm]⟩
  have d2 : d.toNat ∣ b.toNat := Nat.Coprime.dvd_of_dvd_mul_left c2.symm ⟨a.natAbs, by rw [← hn, Nat.mul_comm]⟩
  have e := Nat.dvd_antisymm d1 d2
  have e' : b = d := by omega
  subst e'
  exact ⟨Int.eq_of_mul_eq_mul_right (by omega) h, rfl⟩

/-- How two fractions stand to one another. -/
def cmpV (a b c d : Int) : Int := if both a b c d then (if a * d < c * b then -1 else if c * b < a * d then 1 else 0) else 0

theorem cmp_all (a b c d : Int) (w : World) (ha : -9223372036854775808 ≤ a) (ha' : a ≤ 9223372036854775807) (hb : -9223372036854775808 ≤ b) (hb' : b ≤ 9223372036854775807) (hc : -9223372036854775808 ≤ c) (hc' : c ≤ 9223372036854775807) (hd : -9223372036854775808 ≤ d) (hd' : d ≤ 9223372036854775807) :
    Calls Tryz.prog 54 #[.agg #[.int .i64 a, .int .i64 b], .agg #[.int .i64 c, .int .i64 d]] w fun e w' => e = .returned (.int .i64 (cmpV a b c d)) ∧ Below w.heap.size w w' := by
  by_cases hs : a = c ∧ b = d
  · obtain ⟨rfl, rfl⟩ := hs
    have e : cmpV a b a b = 0 := by unfold cmpV; simp
    rw [e]; exact cmp_same a b w
  · cases h1 : mayB a b
    · have e : cmpV a b c d = 0 := by simp [cmpV, both, h1]
      rw [e]
      by_cases hac : a = c
      · exact cmp_no1B a b c d w ha ha' hb hb' hc hc' hd hd' (by simpa using hac) (by simp; exact fun h => hs ⟨hac, h⟩) h1
      · exact cmp_no1A a b c d w ha ha' hb hb' hc hc' hd hd' (by simpa using hac) h1
    · cases h2 : mayB c d
      · have e : cmpV a b c d = 0 := by simp [cmpV, both, h2]
        rw [e]
        by_cases hac : a = c
        · exact cmp_no2B a b c d w ha ha' hb hb' hc hc' hd hd' (by simpa using hac) (by simp; exact fun h => hs ⟨hac, h⟩) h1 h2
        · exact cmp_no2A a b c d w ha ha' hb hb' hc hc' hd hd' (by simpa using hac) h1 h2
      · have hu : a * d ≠ c * b := fun h => hs (may_unique h1 h2 h)
        obtain ⟨p1, _⟩ := may_of h1
        obtain ⟨p2, _⟩ := may_of h2
        have hl := less_val a b c d p1 p2
        have e : cmpV a b c d = if decide (a * d < c * b) then -1 else 1 := by
          simp only [cmpV, both, h1, h2, Bool.and_true, if_true, decide_eq_true_eq]
          split
          · rfl
          · rw [if_pos (by omega)]
        rw [e]
        by_cases hac : a = c
        · exact cmp_yesB a b c d w ha ha' hb hb' hc hc' hd hd' (by simpa using hac) (by simp; exact fun h => hs ⟨hac, h⟩) h1 h2 _ hl
        · exact cmp_yesA a b c d w ha ha' hb hb' hc hc' hd hd' (by simpa using hac) h1 h2 _ hl

end Go.Proofs.YtedoahibceeklabGreatDoor
