/- The order of values, in plain words: it turns, it goes on, and only the same stand at one place. -/
import Derived.Test.YtedoahibceeklabGreatDoorVCmp
import Derived.Test.YtedoahibceeklabGreatDoorVTexts0
namespace Go.Proofs.YtedoahibceeklabGreatDoor
open Go.RowKit Go.Shelf
set_option linter.unusedVariables false

theorem ocmp_yes {a b c d : Int} (h1 : mayB a b = true) (h2 : mayB c d = true) : cmpV a b c d = if a * d < c * b then -1 else if c * b < a * d then 1 else 0 := by simp [cmpV, both, h1, h2]
theorem ocmp_cases {a b c d : Int} (h1 : mayB a b = true) (h2 : mayB c d = true) : (cmpV a b c d = -1 ∧ a * d < c * b) ∨ (cmpV a b c d = 0 ∧ a * d = c * b) ∨ (cmpV a b c d = 1 ∧ c * b < a * d) := by
  rw [ocmp_yes h1 h2]
  by_cases h3 : a * d < c * b
  · exact Or.inl ⟨if_pos h3, h3⟩
  · rw [if_neg h3]
    by_cases h4 : c * b < a * d
    · exact Or.inr (Or.inr ⟨if_pos h4, h4⟩)
    · exact Or.inr (Or.inl ⟨if_neg h4, by omega⟩)

theorem oon_law {a b c d u v : Int} (h1 : mayB a b = true) (h2 : mayB c d = true) (h3 : mayB u v = true) (hab : cmpV a b c d ≤ 0) (hbc : cmpV c d u v ≤ 0) :
    cmpV a b u v ≤ 0 ∧ ((cmpV a b c d = 0 ∧ cmpV c d u v = 0) ↔ cmpV a b u v = 0) := by
  obtain ⟨pb, _⟩ := may_of h1
  obtain ⟨pd, _⟩ := may_of h2
  obtain ⟨pv, _⟩ := may_of h3
  have k1 : a * d ≤ c * b := by rcases ocmp_cases h1 h2 with ⟨e, h⟩ | ⟨e, h⟩ | ⟨e, h⟩ <;> omega
  have k2 : c * v ≤ u * d := by rcases ocmp_cases h2 h3 with ⟨e, h⟩ | ⟨e, h⟩ | ⟨e, h⟩ <;> omega
  have l1 := Int.mul_le_mul_of_nonneg_right k1 (Int.le_of_lt pv)
  have l2 := Int.mul_le_mul_of_nonneg_right k2 (Int.le_of_lt pb)
  have e1 : c * b * v = c * v * b := by grind
  have e2 : a * d * v = a * v * d := by grind
  have e3 : u * d * b = u * b * d := by grind
  have k3 : a * v * d ≤ u * b * d := by omega
  have k4 : a * v ≤ u * b := Int.le_of_mul_le_mul_right k3 pd
  refine ⟨?_, ?_, ?_⟩
  · rcases ocmp_cases h1 h3 with ⟨e, h⟩ | ⟨e, h⟩ | ⟨e, h⟩ <;> omega
  · rintro ⟨z1, z2⟩
    have m1 : a * d = c * b := by rcases ocmp_cases h1 h2 with ⟨e, h⟩ | ⟨e, h⟩ | ⟨e, h⟩ <;> omega
    have m2 : c * v = u * d := by rcases ocmp_cases h2 h3 with ⟨e, h⟩ | ⟨e, h⟩ | ⟨e, h⟩ <;> omega
    have m3 : a * v * d = u * b * d := by grind
    have m4 : a * v = u * b := Int.eq_of_mul_eq_mul_right (by omega) m3
    rcases ocmp_cases h1 h3 with ⟨e, h⟩ | ⟨e, h⟩ | ⟨e, h⟩ <;> omega
  · intro z
    have m : a * v = u * b := by rcases ocmp_cases h1 h3 with ⟨e, h⟩ | ⟨e, h⟩ | ⟨e, h⟩ <;> omega
    have m3 : a * v * d = u * b * d := by rw [m]
    have n1 : a * d * v = c * b * v := by omega
    have n2 : c * v * b = u * d * b := by omega
    have n3 : a * d = c * b := Int.eq_of_mul_eq_mul_right (by omega) n1
    have n4 : c * v = u * d := Int.eq_of_mul_eq_mul_right (by omega) n2
    constructor
    · rcases ocmp_cases h1 h2 with ⟨e, h⟩ | ⟨e, h⟩ | ⟨e, h⟩ <;> omega
    · rcases ocmp_cases h2 h3 with ⟨e, h⟩ | ⟨e, h⟩ | ⟨e, h⟩ <;> omega

theorem oturn_law {a b c d : Int} (h1 : mayB a b = true) (h2 : mayB c d = true) : cmpV c d a b = -cmpV a b c d := by
  rcases ocmp_cases h1 h2 with ⟨e, h⟩ | ⟨e, h⟩ | ⟨e, h⟩ <;> rcases ocmp_cases h2 h1 with ⟨e', h'⟩ | ⟨e', h'⟩ | ⟨e', h'⟩ <;> omega

/-- Two fractions in their least form that are worth the same are the same. -/
theorem ozero_law {a b c d : Int} (h1 : mayB a b = true) (h2 : mayB c d = true) : cmpV a b c d = 0 ↔ a = c ∧ b = d := by
  obtain ⟨pb, cb⟩ := may_of h1
  obtain ⟨pd, cd⟩ := may_of h2
  constructor
  · intro h
    have m : a * d = c * b := by rcases ocmp_cases h1 h2 with ⟨e, h⟩ | ⟨e, h⟩ | ⟨e, h⟩ <;> omega
    have mb : a.natAbs * d.toNat = c.natAbs * b.toNat := by
      have := congrArg Int.natAbs m
      rw [Int.natAbs_mul, Int.natAbs_mul] at this
      rwa [show d.natAbs = d.toNat by omega, show b.natAbs = b.toNat by omega] at this
    have d1 : b.toNat ∣ d.toNat := cb.symm.dvd_of_dvd_mul_left ⟨c.natAbs, by rw [mb, Nat.mul_comm]⟩
    have d2 : d.toNat ∣ b.toNat := cd.symm.dvd_of_dvd_mul_left ⟨a.natAbs, by rw [← mb, Nat.mul_comm]⟩
    have e : b.toNat = d.toNat := Nat.dvd_antisymm d1 d2
    have e' : b = d := by omega
    subst e'
    exact ⟨Int.eq_of_mul_eq_mul_right (by omega) m, rfl⟩
  · rintro ⟨rfl, rfl⟩
    rcases ocmp_cases h1 h2 with ⟨e, h⟩ | ⟨e, h⟩ | ⟨e, h⟩ <;> omega

theorem cb_range : ∀ (a b : List UInt8), -1 ≤ Lib.compareBytes a b ∧ Lib.compareBytes a b ≤ 1
  | [], [] => by simp [Lib.compareBytes]
  | [], _ :: _ => by simp [Lib.compareBytes]
  | _ :: _, [] => by simp [Lib.compareBytes]
  | x :: a, y :: b => by
    have ih := cb_range a b
    unfold Lib.compareBytes
    split
    · omega
    · split <;> omega
theorem cb_turn : ∀ (a b : List UInt8), Lib.compareBytes b a = -Lib.compareBytes a b
  | [], [] => by simp [Lib.compareBytes]
  | [], _ :: _ => by simp [Lib.compareBytes]
  | _ :: _, [] => by simp [Lib.compareBytes]
  | x :: a, y :: b => by
    have ih := cb_turn a b
    unfold Lib.compareBytes
    by_cases h : x < y
    · have h' : ¬ y < x := UInt8.lt_asymm h
      simp [h, h']
    · by_cases h2 : y < x
      · simp [h, h2]
      · simp [h, h2, ih]
theorem cb_zero : ∀ (a b : List UInt8), Lib.compareBytes a b = 0 ↔ a = b
  | [], [] => by simp [Lib.compareBytes]
  | [], _ :: _ => by simp [Lib.compareBytes]
  | _ :: _, [] => by simp [Lib.compareBytes]
  | x :: a, y :: b => by
    have ih := cb_zero a b
    unfold Lib.compareBytes
    by_cases h : x < y
    · have h' : x ≠ y := UInt8.ne_of_lt h
      simp [h, h']
    · by_cases h2 : y < x
      · have h' : x ≠ y := (UInt8.ne_of_lt h2).symm
        simp [h, h2, h']
      · have e : x = y := UInt8.le_antisymm (UInt8.not_lt.1 h2) (UInt8.not_lt.1 h)
        simp [e, ih]
theorem cb_on : ∀ (a b c : List UInt8), Lib.compareBytes a b ≤ 0 → Lib.compareBytes b c ≤ 0 → Lib.compareBytes a c ≤ 0 ∧ ((Lib.compareBytes a b = 0 ∧ Lib.compareBytes b c = 0) ↔ Lib.compareBytes a c = 0)
  | [], [], [] => by simp [Lib.compareBytes]
  | [], [], _ :: _ => by simp [Lib.compareBytes]
  | [], _ :: _, [] => by simp [Lib.compareBytes]
  | _ :: _, [], _ => by simp [Lib.compareBytes]
  | _ :: _, _ :: _, [] => by simp [Lib.compareBytes]
  | [], y :: b, z :: c => by simp [Lib.compareBytes]
  | x :: a, y :: b, z :: c => by
    have ih := cb_on a b c
    unfold Lib.compareBytes
    rcases Nat.lt_trichotomy x.toNat y.toNat with h | h | h
    · have h1 : x < y := UInt8.lt_iff_toNat_lt.2 h
      rcases Nat.lt_trichotomy y.toNat z.toNat with g | g | g
      · have g1 : y < z := UInt8.lt_iff_toNat_lt.2 g
        have k1 : x < z := UInt8.lt_iff_toNat_lt.2 (by omega)
        simp [h1, g1, k1]
      · have g1 : y = z := UInt8.toNat_inj.1 g
        subst g1
        simp [h1]
      · have g1 : z < y := UInt8.lt_iff_toNat_lt.2 g
        have g2 : ¬ y < z := UInt8.lt_asymm g1
        simp [g1, g2]
    · have h1 : x = y := UInt8.toNat_inj.1 h
      subst h1
      have hi : ¬ x < x := UInt8.lt_irrefl x
      rcases Nat.lt_trichotomy x.toNat z.toNat with g | g | g
      · have g1 : x < z := UInt8.lt_iff_toNat_lt.2 g
        simp [hi, g1]
      · have g1 : x = z := UInt8.toNat_inj.1 g
        subst g1
        simp only [hi, if_false]
        exact ih
      · have g1 : z < x := UInt8.lt_iff_toNat_lt.2 g
        have g2 : ¬ x < z := UInt8.lt_asymm g1
        simp [g1, g2]
    · have h1 : y < x := UInt8.lt_iff_toNat_lt.2 h
      have h2 : ¬ x < y := UInt8.lt_asymm h1
      simp [h1, h2]

theorem toList_data (s : ByteArray) : s.toList = s.data.toList := by simp [ByteArray.toList_eq]

theorem chk1_of {n d : Int} {s : ByteArray} (h : chk 1 n d s = 0) : d = 0 ∧ s.toList = [] := by
  simp only [chk, pureB, if_true] at h
  split at h
  · omega
  · rename_i g
    simp at g
    exact g
theorem chk2_of {n d : Int} {s : ByteArray} (h : chk 2 n d s = 0) : mayB n d = true ∧ s.toList = [] := by
  simp only [chk, pureB, Int.reduceEq, if_false, if_true] at h
  split at h
  · omega
  · rename_i g
    simp at g
    exact g
theorem chk3_of {n d : Int} {s : ByteArray} (h : chk 3 n d s = 0) : n = 0 ∧ d = 0 := by
  simp only [chk, pureB, Int.reduceEq, if_false, if_true] at h
  split at h
  · omega
  · rename_i g
    simp at g
    exact g

/-- A value, as four plain things. -/
structure Val where
  k : Int
  n : Int
  d : Int
  s : ByteArray
/-- May a value be at all: its numbers fit 64 bits. -/
structure Val.Fits (x : Val) : Prop where
  n1 : -9223372036854775808 ≤ x.n
  n2 : x.n ≤ 9223372036854775807
  d1 : -9223372036854775808 ≤ x.d
  d2 : x.d ≤ 9223372036854775807
def Val.may (x : Val) : Int := chk x.k x.n x.d x.s
def Val.cmp (x y : Val) : Int := vcmp x.k x.n x.d x.s y.k y.n y.d y.s
def Val.same (x y : Val) : Bool := sameB x.k x.n x.d x.s y.k y.n y.d y.s

theorem Val.cmp_ok {x y : Val} (h : x.may = 0) (g : y.may = 0) : x.cmp y = if x.k = y.k then (if x.k = 1 then Lib.compareInt x.n y.n else if x.k = 2 then cmpV x.n x.d y.n y.d else Lib.compareBytes x.s.toList y.s.toList) else Lib.compareInt x.k y.k := by
  unfold Val.may at h g
  unfold Val.cmp vcmp
  rw [if_pos h, if_pos g, toList_data, toList_data]

theorem ci_cases (a b : Int) : (Lib.compareInt a b = -1 ∧ a < b) ∨ (Lib.compareInt a b = 0 ∧ a = b) ∨ (Lib.compareInt a b = 1 ∧ b < a) := by
  unfold Lib.compareInt
  rcases Int.lt_trichotomy a b with h | h | h
  · exact Or.inl ⟨if_pos h, h⟩
  · subst h; simp
  · exact Or.inr (Or.inr ⟨by rw [if_neg (by omega), if_pos h], h⟩)

theorem Val.cases {x : Val} (h : x.may = 0) : (x.k = 1 ∧ x.d = 0 ∧ x.s.toList = []) ∨ (x.k = 2 ∧ mayB x.n x.d = true ∧ x.s.toList = []) ∨ (x.k = 3 ∧ x.n = 0 ∧ x.d = 0) := by
  unfold Val.may at h
  rcases chk_kind h with e | e | e
  · rw [e] at h; exact Or.inl ⟨e, chk1_of h⟩
  · rw [e] at h; exact Or.inr (Or.inl ⟨e, chk2_of h⟩)
  · rw [e] at h; exact Or.inr (Or.inr ⟨e, chk3_of h⟩)

theorem Val.range (x y : Val) : -1 ≤ x.cmp y ∧ x.cmp y ≤ 1 := by
  unfold Val.cmp vcmp
  split
  · split
    · split
      · split
        · rcases ci_cases x.n y.n with h | h | h <;> omega
        · split
          · unfold cmpV
            split
            · split
              · omega
              · split <;> omega
            · omega
          · exact cb_range _ _
      · rcases ci_cases x.k y.k with h | h | h <;> omega
    · omega
  · omega

theorem Val.turn {x y : Val} (h : x.may = 0) (g : y.may = 0) : y.cmp x = -x.cmp y := by
  rw [Val.cmp_ok h g, Val.cmp_ok g h]
  by_cases e : x.k = y.k
  · rw [if_pos e, if_pos e.symm]
    rcases Val.cases h with ⟨a, _⟩ | ⟨a, m, _⟩ | ⟨a, _⟩
    · rw [← e, if_pos a, if_pos a]
      rcases ci_cases x.n y.n with h | h | h <;> rcases ci_cases y.n x.n with h' | h' | h' <;> omega
    · rcases Val.cases g with ⟨b, _⟩ | ⟨b, m', _⟩ | ⟨b, _⟩
      · omega
      · rw [← e, a]
        exact oturn_law m m'
      · omega
    · rw [← e, a]
      exact cb_turn _ _
  · rw [if_neg e, if_neg (Ne.symm e)]
    rcases ci_cases x.k y.k with h | h | h <;> rcases ci_cases y.k x.k with h' | h' | h' <;> omega

theorem Val.zero {x y : Val} (h : x.may = 0) (g : y.may = 0) : x.cmp y = 0 ↔ x.same y = true := by
  rw [Val.cmp_ok h g]
  unfold Val.same sameB
  by_cases e : x.k = y.k
  · rw [if_pos e]
    rcases Val.cases h with ⟨a, p, q⟩ | ⟨a, p, q⟩ | ⟨a, p, q⟩ <;> rcases Val.cases g with ⟨b, p', q'⟩ | ⟨b, p', q'⟩ | ⟨b, p', q'⟩ <;> try omega
    · rw [if_pos a, a, b, p, p', q, q']
      rcases ci_cases x.n y.n with h | h | h <;> simp <;> omega
    · rw [a, b, q, q']
      simp only [Int.reduceEq, if_false, if_true]
      rw [ozero_law p p']
      simp
    · rw [a, b, p, p', q, q']
      simp only [Int.reduceEq, if_false]
      rw [cb_zero]
      simp
  · rw [if_neg e]
    rcases ci_cases x.k y.k with h | h | h
    · simp [e, h.1]
    · exact absurd h.2 e
    · simp [e, h.1]

theorem Val.on {x y z : Val} (h : x.may = 0) (g : y.may = 0) (f : z.may = 0) (a : x.cmp y ≤ 0) (b : y.cmp z ≤ 0) : x.cmp z ≤ 0 ∧ ((x.cmp y = 0 ∧ y.cmp z = 0) ↔ x.cmp z = 0) := by
  rw [Val.cmp_ok h g] at a ⊢
  rw [Val.cmp_ok g f] at b ⊢
  rw [Val.cmp_ok h f]
  by_cases e1 : x.k = y.k
  · rw [if_pos e1] at a ⊢
    by_cases e2 : y.k = z.k
    · rw [if_pos e2] at b ⊢
      rw [if_pos (e1.trans e2)]
      rcases Val.cases h with ⟨k1, p, q⟩ | ⟨k1, p, q⟩ | ⟨k1, p, q⟩ <;> rcases Val.cases g with ⟨k2, p', q'⟩ | ⟨k2, p', q'⟩ | ⟨k2, p', q'⟩ <;> try omega
      · rw [if_pos k1] at a ⊢
        rw [if_pos k2] at b ⊢
        rw [if_pos k1]
        rcases ci_cases x.n y.n with h | h | h <;> rcases ci_cases y.n z.n with h' | h' | h' <;> rcases ci_cases x.n z.n with h'' | h'' | h'' <;> omega
      · rcases Val.cases f with ⟨k3, p'', q''⟩ | ⟨k3, p'', q''⟩ | ⟨k3, p'', q''⟩
        · omega
        · rw [k1] at a ⊢
          rw [k2] at b ⊢
          exact oon_law p p' p'' a b
        · omega
      · rw [k1] at a ⊢
        rw [k2] at b ⊢
        exact cb_on _ _ _ a b
    · rw [if_neg e2] at b ⊢
      rw [if_neg (by omega)]
      rw [e1]
      rcases ci_cases y.k z.k with h | h | h <;> omega
  · rw [if_neg e1] at a ⊢
    by_cases e2 : y.k = z.k
    · rw [if_neg (by omega), ← e2]
      rcases ci_cases x.k y.k with h | h | h <;> omega
    · rw [if_neg e2] at b ⊢
      rcases ci_cases x.k y.k with h | h | h <;> rcases ci_cases y.k z.k with h' | h' | h' <;> try omega
      rw [if_neg (by omega)]
      rcases ci_cases x.k z.k with h'' | h'' | h'' <;> omega

theorem Val.self {x : Val} (h : x.may = 0) : x.cmp x = 0 := (Val.zero h h).2 (by simp [Val.same, sameB])

end Go.Proofs.YtedoahibceeklabGreatDoor
