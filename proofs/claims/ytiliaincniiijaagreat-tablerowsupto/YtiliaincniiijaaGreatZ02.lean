/- The columns in the order in which their variables rise. -/
import Derived.Test.YtiliaincniiijaaGreatZ01
import Derived.Deep.DeepCutAuto
import Derived.ArgAppend
import Derived.Laws.OwnMore
import Derived.Deep.RegionHeld3
import Derived.OwnWalk
import Derived.Deep.RegionLaw
import Derived.Calls
import Derived.Below
import Derived.Sort.Grow
import Derived.Lib.QuietBelow
import Derived.RowKit
import Derived.Lib.OwnBridge
import Derived.Shelf.SlSortCmp.NoneTotal
import Derived.Shelf.SlGeneric
import Derived.Ground.SlsfProg
import Derived.Ground.SlgfProg
import Derived.Ground.SlgnProg
import Derived.Shelf.SlicesE.IndexFunc
import Derived.Shelf.SlicesE.Clone
import Derived.Test.YtiliaincniiijaaGreatProg

namespace Go.Proofs.YtiliaincniiijaaGreat
open Go.RowKit Go.Shelf
set_option linter.unusedVariables false

theorem ocmp_yes {a b c d : Int} (h1 : mayB a b = true) (h2 : mayB c d = true) : cmpV a b c d = if a * d < c * b then -1 else if c * b < a * d then 1 else 0 := by simp [cmpV, both, h1, h2]
theorem ocmp_cases {a b c d : Int} (h1 : mayB a b = true) (h2 : mayB c d = true) : (cmpV a b c d = -1 ∧ a * d < c * b) ∨ (cmpV a b c d = 0 ∧ a * d = c * b) ∨ (cmpV a b c d = 1 ∧ c * b < a * d) := by
  rw [ocmp_yes h1 h2]
  by_cases h3 : a * d < c * b
  · exact Or.inl ⟨if_pos h3, h3⟩
  · rw [if_neg h3]
    by_cases h4 : c * b < a * d
    · exact Or.inr (Or.inr ⟨if_pos h4, h4⟩)
    · exact Or.inr (Or.inl ⟨if_neg h4, by omega⟩)

theorem oon_law {a b c d u v : Int} (h1 : mayB a b = true) (h2 : mayB c d = true) (h3 : mayB u v = true) (hab : cmpV a b c d ≤ 0) (hbc : cmpV c d u v ≤ 0) :
    cmpV a b u v ≤ 0 ∧ ((cmpV a b c d = 0 ∧ cmpV c d u v = 0) ↔ cmpV a b u v = 0) := by
  obtain ⟨pb, _⟩ := may_of h1
  obtain ⟨pd, _⟩ := may_of h2
  obtain ⟨pv, _⟩ := may_of h3
  have k1 : a * d ≤ c * b := by rcases ocmp_cases h1 h2 with ⟨e, h⟩ | ⟨e, h⟩ | ⟨e, h⟩ <;> omega
  have k2 : c * v ≤ u * d := by rcases ocmp_cases h2 h3 with ⟨e, h⟩ | ⟨e, h⟩ | ⟨e, h⟩ <;> omega
  have l1 := Int.mul_le_mul_of_nonneg_right k1 (Int.le_of_lt pv)
  have l2 := Int.mul_le_mul_of_nonneg_right k2 (Int.le_of_lt pb)
  have e1 : c * b * v = c * v * b := by grind
  have e2 : a * d * v = a * v * d := by grind
  have e3 : u * d * b = u * b * d := by grind
  have k3 : a * v * d ≤ u * b * d := by omega
  have k4 : a * v ≤ u * b := Int.le_of_mul_le_mul_right k3 pd
  refine ⟨?_, ?_, ?_⟩
  · rcases ocmp_cases h1 h3 with ⟨e, h⟩ | ⟨e, h⟩ | ⟨e, h⟩ <;> omega
  · rintro ⟨z1, z2⟩
    have m1 : a * d = c * b := by rcases ocmp_cases h1 h2 with ⟨e, h⟩ | ⟨e, h⟩ | ⟨e, h⟩ <;> omega
    have m2 : c * v = u * d := by rcases ocmp_cases h2 h3 with ⟨e, h⟩ | ⟨e, h⟩ | ⟨e, h⟩ <;> omega
    have m3 : a * v * d = u * b * d := by grind
    have m4 : a * v = u * b := Int.eq_of_mul_eq_mul_right (by omega) m3
    rcases ocmp_cases h1 h3 with ⟨e, h⟩ | ⟨e, h⟩ | ⟨e, h⟩ <;> omega
  · intro z
    have m : a * v = u * b := by rcases ocmp_cases h1 h3 with ⟨e, h⟩ | ⟨e, h⟩ | ⟨e, h⟩ <;> omega
    have m3 : a * v * d = u * b * d := by rw [m]
    have n1 : a * d * v = c * b * v := by omega
    have n2 : c * v * b = u * d * b := by omega
    have n3 : a * d = c * b := Int.eq_of_mul_eq_mul_right (by omega) n1
    have n4 : c * v = u * d := Int.eq_of_mul_eq_mul_right (by omega) n2
    constructor
    · rcases ocmp_cases h1 h2 with ⟨e, h⟩ | ⟨e, h⟩ | ⟨e, h⟩ <;> omega
    · rcases ocmp_cases h2 h3 with ⟨e, h⟩ | ⟨e, h⟩ | ⟨e, h⟩ <;> omega

theorem oturn_law {a b c d : Int} (h1 : mayB a b = true) (h2 : mayB c d = true) : cmpV c d a b = -cmpV a b c d := by
  rcases ocmp_cases h1 h2 with ⟨e, h⟩ | ⟨e, h⟩ | ⟨e, h⟩ <;> rcases ocmp_cases h2 h1 with ⟨e', h'⟩ | ⟨e', h'⟩ | ⟨e', h'⟩ <;> omega

/-- Two fractions in their least form that are worth the same are the same. -/
theorem ozero_law {a b c d : Int} (h1 : mayB a b = true) (h2 : mayB c d = true) : cmpV a b c d = 0 ↔ a = c ∧ b = d := by
  obtain ⟨pb, cb⟩ := may_of h1
  obtain ⟨pd, cd⟩ := may_of h2
  constructor
  · intro h
    have m : a * d = c * b := by rcases ocmp_cases h1 h2 with ⟨e, h⟩ | ⟨e, h⟩ | ⟨e, h⟩ <;> omega
    have mb : a.natAbs * d.toNat = c.natAbs * b.toNat := by
      have := congrArg Int.natAbs m
      rw [Int.natAbs_mul, Int.natAbs_mul] at this
      rwa [show d.natAbs = d.toNat by omega, show b.natAbs = b.toNat by omega] at this
    have d1 : b.toNat ∣ d.toNat := cb.symm.dvd_of_dvd_mul_left ⟨c.natAbs, by rw [mb, Nat.mul_comm]⟩
    have d2 : d.toNat ∣ b.toNat := cd.symm.dvd_of_dvd_mul_left ⟨a.natAbs, by rw [← mb, Nat.mul_comm]⟩
    have e : b.toNat = d.toNat := Nat.dvd_antisymm d1 d2
    have e' : b = d := by omega
    subst e'
    exact ⟨Int.eq_of_mul_eq_mul_right (by omega) m, rfl⟩
  · rintro ⟨rfl, rfl⟩
    rcases ocmp_cases h1 h2 with ⟨e, h⟩ | ⟨e, h⟩ | ⟨e, h⟩ <;> omega

theorem cb_range : ∀ (a b : List UInt8), -1 ≤ Lib.compareBytes a b ∧ Lib.compareBytes a b ≤ 1
  | [], [] => by simp [Lib.compareBytes]
  | [], _ :: _ => by simp [Lib.compareBytes]
  | _ :: _, [] => by simp [Lib.compareBytes]
  | x :: a, y :: b => by
    have ih := cb_range a b
    unfold Lib.compareBytes
    split
    · omega
    · split <;> omega
theorem cb_turn : ∀ (a b : List UInt8), Lib.compareBytes b a = -Lib.compareBytes a b
  | [], [] => by simp [Lib.compareBytes]
  | [], _ :: _ => by simp [Lib.compareBytes]
  | _ :: _, [] => by simp [Lib.compareBytes]
  | x :: a, y :: b => by
    have ih := cb_turn a b
    unfold Lib.compareBytes
    by_cases h : x < y
    · have h' : ¬ y < x := UInt8.lt_asymm h
      simp [h, h']
    · by_cases h2 : y < x
      · simp [h, h2]
      · simp [h, h2, ih]
theorem cb_zero : ∀ (a b : List UInt8), Lib.compareBytes a b = 0 ↔ a = b
  | [], [] => by simp [Lib.compareBytes]
  | [], _ :: _ => by simp [Lib.compareBytes]
  | _ :: _, [] => by simp [Lib.compareBytes]
  | x :: a, y :: b => by
    have ih := cb_zero a b
    unfold Lib.compareBytes
    by_cases h : x < y
    · have h' : x ≠ y := UInt8.ne_of_lt h
      simp [h, h']
    · by_cases h2 : y < x
      · have h' : x ≠ y := (UInt8.ne_of_lt h2).symm
        simp [h, h2, h']
      · have e : x = y := UInt8.le_antisymm (UInt8.not_lt.1 h2) (UInt8.not_lt.1 h)
        simp [e, ih]
theorem cb_on : ∀ (a b c : List UInt8), Lib.compareBytes a b ≤ 0 → Lib.compareBytes b c ≤ 0 → Lib.compareBytes a c ≤ 0 ∧ ((Lib.compareBytes a b = 0 ∧ Lib.compareBytes b c = 0) ↔ Lib.compareBytes a c = 0)
  | [], [], [] => by simp [Lib.compareBytes]
  | [], [], _ :: _ => by simp [Lib.compareBytes]
  | [], _ :: _, [] => by simp [Lib.compareBytes]
  | _ :: _, [], _ => by simp [Lib.compareBytes]
  | _ :: _, _ :: _, [] => by simp [Lib.compareBytes]
  | [], y :: b, z :: c => by simp [Lib.compareBytes]
  | x :: a, y :: b, z :: c => by
    have ih := cb_on a b c
    unfold Lib.compareBytes
    rcases Nat.lt_trichotomy x.toNat y.toNat with h | h | h
    · have h1 : x < y := UInt8.lt_iff_toNat_lt.2 h
      rcases Nat.lt_trichotomy y.toNat z.toNat with g | g | g
      · have g1 : y < z := UInt8.lt_iff_toNat_lt.2 g
        have k1 : x < z := UInt8.lt_iff_toNat_lt.2 (by omega)
        simp [h1, g1, k1]
      · have g1 : y = z := UInt8.toNat_inj.1 g
        subst g1
        simp [h1]
      · have g1 : z < y := UInt8.lt_iff_toNat_lt.2 g
        have g2 : ¬ y < z := UInt8.lt_asymm g1
        simp [g1, g2]
    · have h1 : x = y := UInt8.toNat_inj.1 h
      subst h1
      have hi : ¬ x < x := UInt8.lt_irrefl x
      rcases Nat.lt_trichotomy x.toNat z.toNat with g | g | g
      · have g1 : x < z := UInt8.lt_iff_toNat_lt.2 g
        simp [hi, g1]
      · have g1 : x = z := UInt8.toNat_inj.1 g
        subst g1
        simp only [hi, if_false]
        exact ih
      · have g1 : z < x := UInt8.lt_iff_toNat_lt.2 g
        have g2 : ¬ x < z := UInt8.lt_asymm g1
        simp [g1, g2]
    · have h1 : y < x := UInt8.lt_iff_toNat_lt.2 h
      have h2 : ¬ x < y := UInt8.lt_asymm h1
      simp [h1, h2]

theorem toList_data (s : ByteArray) : s.toList = s.data.toList := by simp [ByteArray.toList_eq]

theorem chk1_of {n d : Int} {s : ByteArray} (h : chk 1 n d s = 0) : d = 0 ∧ s.toList = [] := by
  simp only [chk, pureB, if_true] at h
  split at h
  · omega
  · rename_i g
    simp at g
    exact g
theorem chk2_of {n d : Int} {s : ByteArray} (h : chk 2 n d s = 0) : mayB n d = true ∧ s.toList = [] := by
  simp only [chk, pureB, Int.reduceEq, if_false, if_true] at h
  split at h
  · omega
  · rename_i g
    simp at g
    exact g
theorem chk3_of {n d : Int} {s : ByteArray} (h : chk 3 n d s = 0) : n = 0 ∧ d = 0 := by
  simp only [chk, pureB, Int.reduceEq, if_false, if_true] at h
  split at h
  · omega
  · rename_i g
    simp at g
    exact g

/-- A value, as four plain things. -/
structure Val where
  k : Int
  n : Int
  d : Int
  s : ByteArray
/-- May a value be at all: its numbers fit 64 bits. -/
structure Val.Fits (x : Val) : Prop where
  n1 : -9223372036854775808 ≤ x.n
  n2 : x.n ≤ 9223372036854775807
  d1 : -9223372036854775808 ≤ x.d
  d2 : x.d ≤ 9223372036854775807
def Val.may (x : Val) : Int := chk x.k x.n x.d x.s
def Val.cmp (x y : Val) : Int := vcmp x.k x.n x.d x.s y.k y.n y.d y.s
def Val.same (x y : Val) : Bool := sameB x.k x.n x.d x.s y.k y.n y.d y.s

theorem Val.cmp_ok {x y : Val} (h : x.may = 0) (g : y.may = 0) : x.cmp y = if x.k = y.k then (if x.k = 1 then Lib.compareInt x.n y.n else if x.k = 2 then cmpV x.n x.d y.n y.d else Lib.compareBytes x.s.toList y.s.toList) else Lib.compareInt x.k y.k := by
  unfold Val.may at h g
  unfold Val.cmp vcmp
  rw [if_pos h, if_pos g, toList_data, toList_data]

theorem ci_cases (a b : Int) : (Lib.compareInt a b = -1 ∧ a < b) ∨ (Lib.compareInt a b = 0 ∧ a = b) ∨ (Lib.compareInt a b = 1 ∧ b < a) := by
  unfold Lib.compareInt
  rcases Int.lt_trichotomy a b with h | h | h
  · exact Or.inl ⟨if_pos h, h⟩
  · subst h; simp
  · exact Or.inr (Or.inr ⟨by rw [if_neg (by omega), if_pos h], h⟩)

theorem Val.cases {x : Val} (h : x.may = 0) : (x.k = 1 ∧ x.d = 0 ∧ x.s.toList = []) ∨ (x.k = 2 ∧ mayB x.n x.d = true ∧ x.s.toList = []) ∨ (x.k = 3 ∧ x.n = 0 ∧ x.d = 0) := by
  unfold Val.may at h
  rcases chk_kind h with e | e | e
  · rw [e] at h; exact Or.inl ⟨e, chk1_of h⟩
  · rw [e] at h; exact Or.inr (Or.inl ⟨e, chk2_of h⟩)
  · rw [e] at h; exact Or.inr (Or.inr ⟨e, chk3_of h⟩)

theorem Val.range (x y : Val) : -1 ≤ x.cmp y ∧ x.cmp y ≤ 1 := by
  unfold Val.cmp vcmp
  split
  · split
    · split
      · split
        · rcases ci_cases x.n y.n with h | h | h <;> omega
        · split
          · unfold cmpV
            split
            · split
              · omega
              · split <;> omega
            · omega
          · exact cb_range _ _
      · rcases ci_cases x.k y.k with h | h | h <;> omega
    · omega
  · omega

theorem Val.turn {x y : Val} (h : x.may = 0) (g : y.may = 0) : y.cmp x = -x.cmp y := by
  rw [Val.cmp_ok h g, Val.cmp_ok g h]
  by_cases e : x.k = y.k
  · rw [if_pos e, if_pos e.symm]
    rcases Val.cases h with ⟨a, _⟩ | ⟨a, m, _⟩ | ⟨a, _⟩
    · rw [← e, if_pos a, if_pos a]
      rcases ci_cases x.n y.n with h | h | h <;> rcases ci_cases y.n x.n with h' | h' | h' <;> omega
    · rcases Val.cases g with ⟨b, _⟩ | ⟨b, m', _⟩ | ⟨b, _⟩
      · omega
      · rw [← e, a]
        exact oturn_law m m'
      · omega
    · rw [← e, a]
      exact cb_turn _ _
  · rw [if_neg e, if_neg (Ne.symm e)]
    rcases ci_cases x.k y.k with h | h | h <;> rcases ci_cases y.k x.k with h' | h' | h' <;> omega

theorem Val.zero {x y : Val} (h : x.may = 0) (g : y.may = 0) : x.cmp y = 0 ↔ x.same y = true := by
  rw [Val.cmp_ok h g]
  unfold Val.same sameB
  by_cases e : x.k = y.k
  · rw [if_pos e]
    rcases Val.cases h with ⟨a, p, q⟩ | ⟨a, p, q⟩ | ⟨a, p, q⟩ <;> rcases Val.cases g with ⟨b, p', q'⟩ | ⟨b, p', q'⟩ | ⟨b, p', q'⟩ <;> try omega
    · rw [if_pos a, a, b, p, p', q, q']
      rcases ci_cases x.n y.n with h | h | h <;> simp <;> omega
    · rw [a, b, q, q']
      simp only [Int.reduceEq, if_false, if_true]
      rw [ozero_law p p']
      simp
    · rw [a, b, p, p', q, q']
      simp only [Int.reduceEq, if_false]
      rw [cb_zero]
      simp
  · rw [if_neg e]
    rcases ci_cases x.k y.k with h | h | h
    · simp [e, h.1]
    · exact absurd h.2 e
    · simp [e, h.1]

theorem Val.on {x y z : Val} (h : x.may = 0) (g : y.may = 0) (f : z.may = 0) (a : x.cmp y ≤ 0) (b : y.cmp z ≤ 0) : x.cmp z ≤ 0 ∧ ((x.cmp y = 0 ∧ y.cmp z = 0) ↔ x.cmp z = 0) := by
  rw [Val.cmp_ok h g] at a ⊢
  rw [Val.cmp_ok g f] at b ⊢
  rw [Val.cmp_ok h f]
  by_cases e1 : x.k = y.k
  · rw [if_pos e1] at a ⊢
    by_cases e2 : y.k = z.k
    · rw [if_pos e2] at b ⊢
      rw [if_pos (e1.trans e2)]
      rcases Val.cases h with ⟨k1, p, q⟩ | ⟨k1, p, q⟩ | ⟨k1, p, q⟩ <;> rcases Val.cases g with ⟨k2, p', q'⟩ | ⟨k2, p', q'⟩ | ⟨k2, p', q'⟩ <;> try omega
      · rw [if_pos k1] at a ⊢
        rw [if_pos k2] at b ⊢
        rw [if_pos k1]
        rcases ci_cases x.n y.n with h | h | h <;> rcases ci_cases y.n z.n with h' | h' | h' <;> rcases ci_cases x.n z.n with h'' | h'' | h'' <;> omega
      · rcases Val.cases f with ⟨k3, p'', q''⟩ | ⟨k3, p'', q''⟩ | ⟨k3, p'', q''⟩
        · omega
        · rw [k1] at a ⊢
          rw [k2] at b ⊢
          exact oon_law p p' p'' a b
        · omega
      · rw [k1] at a ⊢
        rw [k2] at b ⊢
        exact cb_on _ _ _ a b
    · rw [if_neg e2] at b ⊢
      rw [if_neg (by omega)]
      rw [e1]
      rcases ci_cases y.k z.k with h | h | h <;> omega
  · rw [if_neg e1] at a ⊢
    by_cases e2 : y.k = z.k
    · rw [if_neg (by omega), ← e2]
      rcases ci_cases x.k y.k with h | h | h <;> omega
    · rw [if_neg e2] at b ⊢
      rcases ci_cases x.k y.k with h | h | h <;> rcases ci_cases y.k z.k with h' | h' | h' <;> try omega
      rw [if_neg (by omega)]
      rcases ci_cases x.k z.k with h'' | h'' | h'' <;> omega

theorem Val.self {x : Val} (h : x.may = 0) : x.cmp x = 0 := (Val.zero h h).2 (by simp [Val.same, sameB])

end Go.Proofs.YtiliaincniiijaaGreat

namespace Go.Proofs.YtiliaincniiijaaGreat
open Go.RowKit Go.Shelf
set_option linter.unusedVariables false

/-- How two rows stand to one another. -/
def rowC : List Val → List Val → Int
  | [], [] => 0
  | [], _ :: _ => -1
  | _ :: _, [] => 1
  | x :: xs, y :: ys => if x.cmp y = 0 then rowC xs ys else x.cmp y

theorem rowC_zero {x y : Val} {xs ys : List Val} (h : x.cmp y = 0) : rowC (x :: xs) (y :: ys) = rowC xs ys := by simp [rowC, h]
theorem rowC_else {x y : Val} {xs ys : List Val} (h : x.cmp y ≠ 0) : rowC (x :: xs) (y :: ys) = x.cmp y := by simp [rowC, h]
theorem rowC_end (xs ys : List Val) (h : xs = [] ∨ ys = []) : rowC xs ys = Lib.compareInt xs.length ys.length := by
  cases xs with
  | nil =>
    cases ys with
    | nil => simp [rowC, Lib.compareInt]
    | cons y ys => simp [rowC, Lib.compareInt] <;> omega
  | cons x xs =>
    cases ys with
    | nil => simp [rowC, Lib.compareInt] <;> omega
    | cons y ys => simp at h

theorem ci_shift (a b c d : Int) (h : a - b = c - d) : Lib.compareInt a b = Lib.compareInt c d := by
  rcases ci_cases a b with g | g | g <;> rcases ci_cases c d with g' | g' | g' <;> omega
theorem rowC_end' (xs ys : List Val) (k : Nat) (h1 : k ≤ xs.length) (h2 : k ≤ ys.length) (h3 : k = xs.length ∨ k = ys.length) : rowC (xs.drop k) (ys.drop k) = Lib.compareInt xs.length ys.length := by
  rw [rowC_end _ _ (by rcases h3 with h | h <;> simp [h])]
  apply ci_shift
  simp
  omega

/-- A row's values lie at a place. -/
def Lies (w : World) (b off : Nat) (xs : List Val) : Prop :=
  ∀ i (h : i < xs.length), w.cell? ⟨b, off + i * 4, none⟩ = some (.int .i64 xs[i].k) ∧ w.cell? ⟨b, off + i * 4 + 1, none⟩ = some (.int .i64 xs[i].n) ∧ w.cell? ⟨b, off + i * 4 + 2, none⟩ = some (.int .i64 xs[i].d) ∧ w.cell? ⟨b, off + i * 4 + 3, none⟩ = some (.string xs[i].s)
theorem Lies.below {w w' : World} {b off : Nat} {xs : List Val} (h : Lies w b off xs) {B : Nat} (hb : Below B w w') (hlt : b < B) : Lies w' b off xs := fun i hi => by
  obtain ⟨c0, c1, c2, c3⟩ := h i hi
  exact ⟨(hb.cell (p := ⟨b, _, none⟩) hlt).trans c0, (hb.cell (p := ⟨b, _, none⟩) hlt).trans c1, (hb.cell (p := ⟨b, _, none⟩) hlt).trans c2, (hb.cell (p := ⟨b, _, none⟩) hlt).trans c3⟩

theorem drop_at {xs : List Val} {k : Nat} (h : k < xs.length) : xs.drop k = xs[k] :: xs.drop (k + 1) := List.drop_eq_getElem_cons h

set_option maxRecDepth 100000 in
set_option maxHeartbeats 2000000 in
theorem row_core (b off c b' off' c' : Nat) (xs ys : List Val) (w : World) (fx : ∀ v ∈ xs, v.Fits) (fy : ∀ v ∈ ys, v.Fits) (hb : b < w.heap.size) (hb' : b' < w.heap.size)
    (hx : Lies w b off xs) (hy : Lies w b' off' ys) (lx : xs.length ≤ 9223372036854775807) (ly : ys.length ≤ 9223372036854775807) :
    Calls Tryz.prog 13 #[.slice (some ⟨b, off, none⟩) xs.length c, .slice (some ⟨b', off', none⟩) ys.length c'] w fun e w' => e = .returned (.int .i64 (rowC xs ys)) ∧ Below w.heap.size w w' := by
  obtain ⟨n, en⟩ : ∃ n : Nat, Hid (xs.length = n) := ⟨_, rfl⟩
  obtain ⟨m, em⟩ : ∃ m : Nat, Hid (ys.length = m) := ⟨_, rfl⟩
  rw [en.out] at lx ⊢
  rw [em.out] at ly ⊢
  obtain ⟨u, eu⟩ : ∃ u : Nat, Hid (min n m = u) := ⟨_, rfl⟩
  have HX : Hid (Lies w b off xs) := hx
  have HY : Hid (Lies w b' off' ys) := hy
  clear hx hy
  go_enter Tryz.func13, Tryz.ntmps13
  go_wp2
  have eu' : min (n : Int) (m : Int) = (u : Int) := by have := eu.out; omega
  rw [eu']
  clear eu'
  go_loopw [12] (fun i wr => ∃ k : Nat, k ≤ u ∧ i = .int .i64 k ∧ Hid (rowC xs ys = rowC (xs.drop k) (ys.drop k)) ∧ Below w.heap.size w wr) (fun i _ => u - (intOf i).toNat)
  case atStart => exact ⟨0, Nat.zero_le _, rfl, (show rowC xs ys = rowC (xs.drop 0) (ys.drop 0) by simp), Below.refl _ _⟩
  case round =>
    obtain ⟨k, hk, rfl, hr, hB⟩ := hrel
    by_cases hlt : k < u
    · have kx : k < xs.length := by have := eu.out; have := en.out; omega
      have ky : k < ys.length := by have := eu.out; have := em.out; omega
      have kn : k < n := by have := en.out; omega
      have km : k < m := by have := em.out; omega
      have q1 := (HX.out.below hB hb) k kx
      have q2 := (HY.out.below hB hb') k ky
      have f1 := fx xs[k] (List.getElem_mem kx)
      have f2 := fy ys[k] (List.getElem_mem ky)
      have dx := drop_at kx
      have dy := drop_at ky
      generalize xs[k] = X at q1 f1 dx
      generalize ys[k] = Y at q2 f2 dy
      have hr2 : Hid (rowC xs ys = if X.cmp Y = 0 then rowC (xs.drop (k + 1)) (ys.drop (k + 1)) else X.cmp Y) := by
        have := hr.out
        rw [dx, dy] at this
        exact this
      clear dx dy hr
      obtain ⟨a0, a1, a2, a3⟩ := q1
      obtain ⟨b0, b1, b2, b3⟩ := q2
      have hbr : b < wr.heap.size := Nat.lt_of_lt_of_le hb hB.size
      have hbr' : b' < wr.heap.size := Nat.lt_of_lt_of_le hb' hB.size
      obtain ⟨C, eC⟩ : ∃ C : Int, Hid (X.cmp Y = C) := ⟨_, rfl⟩
      have ct : Hid (∀ W : World, Calls Tryz.prog 37 #[.agg #[.int .i64 X.k, .int .i64 X.n, .int .i64 X.d, .string X.s], .agg #[.int .i64 Y.k, .int .i64 Y.n, .int .i64 Y.d, .string Y.s]] W fun e w' => e = .returned (.int .i64 C) ∧ Below W.heap.size W w') := fun W => by
        have h := vcompare_any X.k X.n X.d X.s Y.k Y.n Y.d Y.s W f1.n1 f1.n2 f1.d1 f1.d2 f2.n1 f2.n2 f2.d1 f2.d2
        rw [show vcmp X.k X.n X.d X.s Y.k Y.n Y.d Y.s = C from eC.out] at h
        exact h
      rw [eC.out] at hr2
      clear f1 f2
      go_upto_region 4 with fail
      go_region_held3 (fun w' => w'.cell? ⟨b, off + k * 4, none⟩ = some (.int .i64 X.k) ∧ w'.cell? ⟨b, off + k * 4 + 1, none⟩ = some (.int .i64 X.n) ∧ w'.cell? ⟨b, off + k * 4 + 2, none⟩ = some (.int .i64 X.d) ∧ w'.cell? ⟨b, off + k * 4 + 3, none⟩ = some (.string X.s) ∧ w'.cell? ⟨b', off' + k * 4, none⟩ = some (.int .i64 Y.k) ∧ w'.cell? ⟨b', off' + k * 4 + 1, none⟩ = some (.int .i64 Y.n) ∧ w'.cell? ⟨b', off' + k * 4 + 2, none⟩ = some (.int .i64 Y.d) ∧ w'.cell? ⟨b', off' + k * 4 + 3, none⟩ = some (.string Y.s))
        (exact ⟨bcl (n := wr.heap.size) (by go_grown) a0 hbr, bcl (n := wr.heap.size) (by go_grown) a1 hbr, bcl (n := wr.heap.size) (by go_grown) a2 hbr, bcl (n := wr.heap.size) (by go_grown) a3 hbr, bcl (n := wr.heap.size) (by go_grown) b0 hbr', bcl (n := wr.heap.size) (by go_grown) b1 hbr', bcl (n := wr.heap.size) (by go_grown) b2 hbr', bcl (n := wr.heap.size) (by go_grown) b3 hbr'⟩)
        (first
          | (go_at_call 37; refine (ct.out _).mono ?_; rintro e v1 ⟨rfl, hv1⟩; obtain ⟨hw1, hn1⟩ := bg0 (n := wr.heap.size) (W0 := wr) (by go_grown) (by go_size) hv1; clear hv1))
      clear a0 a1 a2 a3 b0 b1 b2 b3
      have hB2 : Below w.heap.size w v1 := hB.trans (hw1.mono hB.size)
      clear hw1 hB
      by_cases hC : C = 0
      · have hr3 : Hid (rowC xs ys = rowC (xs.drop (k + 1)) (ys.drop (k + 1))) := by have := hr2.out; rw [if_pos hC] at this; exact this
        clear hr2 eC ct
        subst hC
        go_wp2
        exact ⟨⟨k + 1, by omega, by go_num, hr3, hB2⟩, by simp [intOf]; omega⟩
      · have hC' : (C != 0) = true := by simpa using hC
        go_wp2
        go_ret
        exact ⟨ret_int (by have := hr2.out; rw [if_neg hC] at this; exact this.symm), hB2⟩
    · have ek : k = u := by omega
      have hz : Hid (rowC xs ys = Lib.compareInt n m) := by
        have h1 := hr.out
        have h2 := rowC_end' xs ys k (by have := eu.out; have := en.out; have := em.out; omega) (by have := eu.out; have := en.out; have := em.out; omega) (by have := eu.out; have := en.out; have := em.out; omega)
        rw [en.out, em.out] at h2
        exact h1.trans h2
      clear hr
      go_wp2_with fail
      refine (Tryz.cmp_Compare_int n m _).mono ?_
      rintro e w3 ⟨rfl, rfl⟩
      go_wp2
      go_ret
      exact ⟨ret_int hz.out.symm, hB⟩

set_option maxRecDepth 100000 in
set_option maxHeartbeats 2000000 in
theorem row_left (p q : Option Addr) (c m c' : Nat) (w : World) (hm : m ≤ 9223372036854775807) :
    Calls Tryz.prog 13 #[.slice p 0 c, .slice q m c'] w fun e w' => e = .returned (.int .i64 (Lib.compareInt 0 m)) ∧ w' = w := by
  have e1 : min (0 : Int) (m : Int) = 0 := by omega
  go_enter Tryz.func13, Tryz.ntmps13
  go_wp2
  refine wp_loop_rounds 1 ?_
  rw [rounds_succ]
  go_wp2_with fail
  refine (Tryz.cmp_Compare_int 0 m _).mono ?_
  rintro e w3 ⟨rfl, rfl⟩
  go_wp2
  go_ret
  exact ⟨rfl, rfl⟩

set_option maxRecDepth 100000 in
set_option maxHeartbeats 2000000 in
theorem row_right (p q : Option Addr) (c m c' : Nat) (w : World) (hm : m ≤ 9223372036854775807) :
    Calls Tryz.prog 13 #[.slice p m c, .slice q 0 c'] w fun e w' => e = .returned (.int .i64 (Lib.compareInt m 0)) ∧ w' = w := by
  have e1 : min (m : Int) (0 : Int) = 0 := by omega
  go_enter Tryz.func13, Tryz.ntmps13
  go_wp2
  refine wp_loop_rounds 1 ?_
  rw [rounds_succ]
  go_wp2_with fail
  refine (Tryz.cmp_Compare_int m 0 _).mono ?_
  rintro e w3 ⟨rfl, rfl⟩
  go_wp2
  go_ret
  exact ⟨rfl, rfl⟩

end Go.Proofs.YtiliaincniiijaaGreat

namespace Go.Proofs.YtiliaincniiijaaGreat
open Go.RowKit

end Go.Proofs.YtiliaincniiijaaGreat

namespace Go.Proofs.YtiliaincniiijaaGreat
open Go.RowKit Go.Shelf
set_option linter.unusedVariables false

end Go.Proofs.YtiliaincniiijaaGreat

namespace Go.Proofs.YtiliaincniiijaaGreat
open Go.RowKit Go.Shelf
set_option linter.unusedVariables false

end Go.Proofs.YtiliaincniiijaaGreat

namespace Go.Proofs.YtiliaincniiijaaGreat
open Go.RowKit Go.Shelf
set_option linter.unusedVariables false

theorem inV : (Tryz.prog.info? 45).map (fun i => (i.zero, i.size, i.bytes)) = some (some (.agg #[.int .i64 0, .int .i64 0, .int .i64 0, .string ⟨#[]⟩]), 4, 40) := by kernel_rfl

/-- The cells of a value, and of a row. -/
def vcells (x : Val) : List Value := [.int .i64 x.k, .int .i64 x.n, .int .i64 x.d, .string x.s]
def flat (xs : List Val) : List Value := xs.flatMap vcells
theorem flat_len (xs : List Val) : (flat xs).length = xs.length * 4 := by
  induction xs with
  | nil => rfl
  | cons x xs ih => simp only [flat, List.flatMap_cons, List.length_append, List.length_cons] at ih ⊢; rw [ih]; simp [vcells]; omega
theorem flat_get : ∀ (xs : List Val) (i j : Nat) (h : i < xs.length), j < 4 → (flat xs)[i * 4 + j]? = (vcells xs[i])[j]?
  | [], i, j, h, _ => by simp at h
  | x :: xs, 0, j, h, hj => by
    simp only [flat, List.flatMap_cons, Nat.zero_mul, Nat.zero_add, List.getElem_cons_zero]
    rw [List.getElem?_append_left (by simpa [vcells] using hj)]
  | x :: xs, i + 1, j, h, hj => by
    have ih := flat_get xs i j (by simpa using h) hj
    simp only [flat, List.flatMap_cons, List.getElem_cons_succ] at ih ⊢
    rw [List.getElem?_append_right (by simp [vcells]; omega), ← ih]
    congr 1
    simp [vcells]
    omega
theorem flat_one (xs : List Val) : ∀ u ∈ flat xs, u.oneCell' = true := by
  intro u hu
  simp only [flat, List.mem_flatMap, vcells] at hu
  obtain ⟨x, _, hx⟩ := hu
  simp at hx
  rcases hx with rfl | rfl | rfl | rfl <;> rfl
theorem lies_cells {w : World} {b off : Nat} {xs : List Val} (h : Lies w b off xs) (j : Nat) (u : Value) (hj : (flat xs)[j]? = some u) : w.cell? ⟨b, off + j, none⟩ = some u := by
  have hl : j < (flat xs).length := by
    rcases Nat.lt_or_ge j (flat xs).length with g | g
    · exact g
    · rw [List.getElem?_eq_none g] at hj; cases hj
  rw [flat_len] at hl
  have hi : j / 4 < xs.length := by omega
  obtain ⟨c0, c1, c2, c3⟩ := h (j / 4) hi
  have hr : j % 4 = 0 ∨ j % 4 = 1 ∨ j % 4 = 2 ∨ j % 4 = 3 := by omega
  have e : j = j / 4 * 4 + j % 4 := by omega
  have g := flat_get xs (j / 4) (j % 4) hi (by omega)
  rw [← e, hj] at g
  rcases hr with r | r | r | r
  · rw [r] at g e; rw [e, Nat.add_zero]; simp [vcells] at g; rw [c0, g]
  · rw [r] at g e; rw [e, ← Nat.add_assoc]; simp [vcells] at g; rw [c1, g]
  · rw [r] at g e; rw [e, ← Nat.add_assoc]; simp [vcells] at g; rw [c2, g]
  · rw [r] at g e; rw [e, ← Nat.add_assoc]; simp [vcells] at g; rw [c3, g]
/-- A slice value that holds a row, nil or not. -/
def RowAt (w : World) (v : Value) (xs : List Val) : Prop := ∃ p c, v = .slice p xs.length c ∧ (xs = [] ∨ ∃ b off, p = some ⟨b, off, none⟩ ∧ b < w.heap.size ∧ Lies w b off xs)
theorem RowAt.below {w w' : World} {v : Value} {xs : List Val} (h : RowAt w v xs) (hb : Below w.heap.size w w') : RowAt w' v xs := by
  obtain ⟨p, c, e, h⟩ := h
  refine ⟨p, c, e, ?_⟩
  rcases h with h | ⟨b, off, h1, h2, h3⟩
  · exact Or.inl h
  · exact Or.inr ⟨b, off, h1, Nat.lt_of_lt_of_le h2 hb.size, h3.below hb h2⟩

theorem row_gen (v v' : Value) (xs ys : List Val) (w : World) (fx : ∀ v ∈ xs, v.Fits) (fy : ∀ v ∈ ys, v.Fits) (hx : RowAt w v xs) (hy : RowAt w v' ys) (lx : xs.length ≤ 9223372036854775807) (ly : ys.length ≤ 9223372036854775807) :
    Calls Tryz.prog 13 #[v, v'] w fun e w' => e = .returned (.int .i64 (rowC xs ys)) ∧ Below w.heap.size w w' := by
  obtain ⟨p, c, rfl, h⟩ := hx
  obtain ⟨q, c', rfl, h'⟩ := hy
  rcases h with rfl | ⟨b, off, rfl, hb, hl⟩
  · refine (row_left p q c ys.length c' w ly).mono ?_
    rintro e w' ⟨rfl, rfl⟩
    exact ⟨by rw [rowC_end [] ys (Or.inl rfl)]; rfl, Below.refl _ _⟩
  · rcases h' with rfl | ⟨b', off', rfl, hb', hl'⟩
    · refine (row_right _ q c xs.length c' w lx).mono ?_
      rintro e w' ⟨rfl, rfl⟩
      exact ⟨by rw [rowC_end xs [] (Or.inr rfl)]; rfl, Below.refl _ _⟩
    · exact row_core b off c b' off' c' xs ys w fx fy hb hb' hl hl' lx ly
end Go.Proofs.YtiliaincniiijaaGreat

namespace Go.Proofs.YtiliaincniiijaaGreat
open Go.RowKit Go.Shelf
set_option linter.unusedVariables false

/-- Texts lie at a place. -/
def Strs (w : World) (b off : Nat) (vs : List ByteArray) : Prop := ∀ i (h : i < vs.length), w.cell? ⟨b, off + i, none⟩ = some (.string vs[i])
theorem Strs.below {w w' : World} {b off : Nat} {vs : List ByteArray} (h : Strs w b off vs) {B : Nat} (hb : Below B w w') (hlt : b < B) : Strs w' b off vs := fun i hi => (hb.cell (p := ⟨b, _, none⟩) hlt).trans (h i hi)

/-- Each text is less than the next. -/
def riseB : List ByteArray → Bool
  | x :: y :: l => Op.bytesLess x.toList y.toList && riseB (y :: l)
  | _ => true
theorem riseB_short {l : List ByteArray} (h : l.length ≤ 1) : riseB l = true := by
  match l, h with
  | [], _ => rfl
  | [_], _ => rfl
theorem riseB_at {l : List ByteArray} {k : Nat} (h : k + 1 < l.length) : riseB (l.drop k) = (Op.bytesLess (l[k]'(by omega)).toList (l[k + 1]).toList && riseB (l.drop (k + 1))) := by
  rw [List.drop_eq_getElem_cons (show k < l.length by omega), List.drop_eq_getElem_cons h]
  rfl

set_option maxRecDepth 100000 in
set_option maxHeartbeats 2000000 in
theorem rise_core (b off c : Nat) (vs : List ByteArray) (w : World) (hb : b < w.heap.size) (hv : Strs w b off vs) (lv : vs.length ≤ 9223372036854775807) :
    Calls Tryz.prog 11 #[.slice (some ⟨b, off, none⟩) vs.length c] w fun e w' => e = .returned (.bool (riseB vs)) ∧ Below w.heap.size w w' := by
  obtain ⟨n, en⟩ : ∃ n : Nat, Hid (vs.length = n) := ⟨_, rfl⟩
  rw [en.out] at lv ⊢
  have HV : Hid (Strs w b off vs) := hv
  clear hv
  go_enter Tryz.func11, Tryz.ntmps11
  go_wp2
  go_loopw [3] (fun i wr => ∃ k : Nat, (k + 1 ≤ n ∨ k = 0) ∧ i = .int .i64 ((k + 1 : Nat) : Int) ∧ Hid (riseB vs = riseB (vs.drop k)) ∧ Below w.heap.size w wr) (fun i _ => n - (intOf i).toNat)
  case atStart => exact ⟨0, Or.inr rfl, rfl, (show riseB vs = riseB (vs.drop 0) by simp), Below.refl _ _⟩
  case round =>
    obtain ⟨k, hk, rfl, hr, hB⟩ := hrel
    by_cases hlt : k + 1 < n
    · have q1 := (HV.out.below hB hb) k (by have := en.out; omega)
      have q2 := (HV.out.below hB hb) (k + 1) (by have := en.out; omega)
      have hr2 := riseB_at (l := vs) (k := k) (by have := en.out; omega)
      generalize vs[k]'(by have := en.out; omega) = X at q1 hr2
      generalize vs[k + 1]'(by have := en.out; omega) = Y at q2 hr2
      have hr3 : Hid (riseB vs = (Op.bytesLess X.toList Y.toList && riseB (vs.drop (k + 1)))) := hr.out.trans hr2
      clear hr hr2
      have kn : k < n := by omega
      have hbr : b < wr.heap.size := Nat.lt_of_lt_of_le hb hB.size
      have ek : ((k + 1 : Nat) : Int) - 1 = (k : Int) := by omega
      have hB2 : Below w.heap.size w wr.drew := by go_grown
      obtain ⟨L, eL⟩ : ∃ L : Bool, Hid (Op.bytesLess X.toList Y.toList = L) := ⟨_, rfl⟩
      go_upto_region 4 with fail
      go_region
      rw [eL.out] at hr3 ⊢
      clear eL q1 q2
      cases L with
      | true =>
        have hr4 : Hid (riseB vs = riseB (vs.drop (k + 1))) := by have := hr3.out; rwa [Bool.true_and] at this
        go_wp2
        exact ⟨⟨k + 1, Or.inl (by omega), by go_num, hr4, hB2⟩, by simp [intOf]; omega⟩
      | false =>
        have hr4 : Hid (riseB vs = false) := by have := hr3.out; rwa [Bool.false_and] at this
        go_wp2
        go_ret
        exact ⟨ret_bool hr4.out.symm, hB2⟩
    · have c1 : ¬ ((k + 1 : Nat) : Int) < n := by omega
      have hr4 : Hid (riseB vs = true) := hr.out.trans (riseB_short (by have := en.out; simp; omega))
      go_wp2
      go_ret
      exact ⟨ret_bool hr4.out.symm, hB⟩

set_option maxRecDepth 100000 in
theorem rise_nil (p : Option Addr) (c : Nat) (w : World) :
    Calls Tryz.prog 11 #[.slice p 0 c] w fun e w' => e = .returned (.bool true) ∧ w' = w := by
  go_enter Tryz.func11, Tryz.ntmps11
  go_wp2
  refine wp_loop_rounds 1 ?_
  rw [rounds_succ]
  go_wp2
  go_ret
  exact ⟨rfl, rfl⟩

end Go.Proofs.YtiliaincniiijaaGreat

namespace Go.Proofs.YtiliaincniiijaaGreat
open Go.RowKit Go.Shelf
set_option linter.unusedVariables false

/-- The first of a row's values that may not be: why. -/
def rowE : List Val → Int
  | [] => 0
  | x :: l => if x.may = 0 then rowE l else x.may
def rowChk (xs : List Val) (m : Nat) : Int := if xs.length = m then rowE xs else 1

set_option maxRecDepth 100000 in
set_option maxHeartbeats 2000000 in
theorem crow_core (b off c m : Nat) (xs : List Val) (w : World) (fx : ∀ v ∈ xs, v.Fits) (hb : b < w.heap.size) (hx : Lies w b off xs) (lx : xs.length ≤ 9223372036854775807) (lm : m ≤ 9223372036854775807) :
    Calls Tryz.prog 12 #[.slice (some ⟨b, off, none⟩) xs.length c, .int .i64 m] w fun e w' => e = .returned (.int .i64 (rowChk xs m)) ∧ Below w.heap.size w w' := by
  obtain ⟨n, en⟩ : ∃ n : Nat, Hid (xs.length = n) := ⟨_, rfl⟩
  rw [en.out] at lx ⊢
  have HX : Hid (Lies w b off xs) := hx
  clear hx
  go_enter Tryz.func12, Tryz.ntmps12
  by_cases hm : n = m
  · subst hm
    have hz : Hid (rowChk xs n = rowE xs) := if_pos en.out
    go_wp2
    go_loopw [14] (fun i wr => ∃ k : Nat, k ≤ n ∧ i = .int .i64 k ∧ Hid (rowE xs = rowE (xs.drop k)) ∧ Below w.heap.size w wr) (fun i _ => n - (intOf i).toNat)
    case atStart => exact ⟨0, Nat.zero_le _, rfl, (show rowE xs = rowE (xs.drop 0) by simp), Below.refl _ _⟩
    case round =>
      obtain ⟨k, hk, rfl, hr, hB⟩ := hrel
      by_cases hlt : k < n
      · have kx : k < xs.length := by have := en.out; omega
        have q1 := (HX.out.below hB hb) k kx
        have f1 := fx xs[k] (List.getElem_mem kx)
        have hr2 : Hid (rowE xs = if xs[k].may = 0 then rowE (xs.drop (k + 1)) else xs[k].may) := by
          have h := hr.out
          rw [List.drop_eq_getElem_cons kx] at h
          exact h
        generalize xs[k] = X at q1 f1 hr2
        clear hr
        obtain ⟨a0, a1, a2, a3⟩ := q1
        obtain ⟨C, eC⟩ : ∃ C : Int, Hid (X.may = C) := ⟨_, rfl⟩
        rw [eC.out] at hr2
        have hbr : b < wr.heap.size := Nat.lt_of_lt_of_le hb hB.size
        go_wp2_with fail
        refine (check_any X.k X.n X.d X.s _ f1.n1 f1.n2 f1.d1 f1.d2).mono ?_
        rintro e w1 ⟨rfl, hb1⟩
        rw [show chk X.k X.n X.d X.s = C from eC.out]
        obtain ⟨hw1, hn1⟩ := bg0 (n := wr.heap.size) (W0 := wr) (by go_grown) (by go_size) hb1
        have hB2 : Below w.heap.size w w1 := hB.trans (hw1.mono hB.size)
        clear a0 a1 a2 a3 hb1 eC f1
        by_cases hC : C = 0
        · have hr3 : Hid (rowE xs = rowE (xs.drop (k + 1))) := by have := hr2.out; rwa [if_pos hC] at this
          clear hr2
          subst hC
          go_wp2
          exact ⟨⟨k + 1, by omega, by go_num, hr3, hB2⟩, by simp [intOf]; omega⟩
        · have hr3 : Hid (rowE xs = C) := by have := hr2.out; rwa [if_neg hC] at this
          have hC' : (C != 0) = true := by simpa using hC
          go_wp2
          go_ret
          exact ⟨ret_int (hr3.out.symm.trans hz.out.symm), hB2⟩
      · have c2 : ¬ (k : Int) < n := by omega
        have hr3 : Hid (rowE xs = 0) := by
          have h := hr.out
          rw [List.drop_eq_nil_of_le (by have := en.out; omega)] at h
          exact h
        go_wp2
        go_ret
        exact ⟨ret_int (hr3.out.symm.trans hz.out.symm), hB⟩
  · have c1 : ¬ (n : Int) = (m : Int) := by omega
    have hz : Hid (rowChk xs m = 1) := if_neg (by rw [en.out]; exact hm)
    go_wp2
    go_ret
    exact ⟨ret_int hz.out.symm, Below.refl _ _⟩

set_option maxRecDepth 100000 in
theorem crow_nil (p : Option Addr) (c m : Nat) (w : World) (lm : m ≤ 9223372036854775807) :
    Calls Tryz.prog 12 #[.slice p 0 c, .int .i64 m] w fun e w' => e = .returned (.int .i64 (rowChk [] m)) ∧ Below w.heap.size w w' := by
  go_enter Tryz.func12, Tryz.ntmps12
  by_cases hm : m = 0
  · subst hm
    go_wp2
    refine wp_loop_rounds 1 ?_
    rw [rounds_succ]
    go_wp2
    go_ret
    exact ⟨rfl, Below.refl _ _⟩
  · have c1 : ¬ (0 : Int) = (m : Int) := by omega
    have hz : Hid (rowChk [] m = 1) := if_neg (by simp; omega)
    go_wp2
    go_ret
    exact ⟨ret_int hz.out.symm, Below.refl _ _⟩

end Go.Proofs.YtiliaincniiijaaGreat

namespace Go.Proofs.YtiliaincniiijaaGreat
open Go.RowKit Go.Shelf
set_option linter.unusedVariables false

/-- Rows lie at a place. -/
def RowsAt (w : World) (b off : Nat) (rs : List (List Val)) : Prop := ∀ i (h : i < rs.length), ∃ v, w.cell? ⟨b, off + i, none⟩ = some v ∧ RowAt w v rs[i]
theorem RowsAt.below {w w' : World} {b off : Nat} {rs : List (List Val)} (h : RowsAt w b off rs) (hb : Below w.heap.size w w') (hlt : b < w.heap.size) : RowsAt w' b off rs := fun i hi => by
  obtain ⟨v, h1, h2⟩ := h i hi
  exact ⟨v, (hb.cell (p := ⟨b, _, none⟩) hlt).trans h1, h2.below hb⟩
/-- Texts at a place, or none at all. -/
def StrsAt (w : World) (v : Value) (vs : List ByteArray) : Prop := ∃ p c, v = .slice p vs.length c ∧ (vs = [] ∨ ∃ b off, p = some ⟨b, off, none⟩ ∧ b < w.heap.size ∧ Strs w b off vs)

theorem rise_any (v : Value) (vs : List ByteArray) (w : World) (h : StrsAt w v vs) (lv : vs.length ≤ 9223372036854775807) :
    Calls Tryz.prog 11 #[v] w fun e w' => e = .returned (.bool (riseB vs)) ∧ Below w.heap.size w w' := by
  obtain ⟨p, c, rfl, rfl | ⟨b, off, rfl, hb, hv⟩⟩ := h
  · refine (rise_nil p c w).mono ?_
    rintro e w' ⟨rfl, rfl⟩
    exact ⟨rfl, Below.refl _ _⟩
  · exact rise_core b off c vs w hb hv lv

theorem crow_any (v : Value) (xs : List Val) (m : Nat) (w : World) (fx : ∀ v ∈ xs, v.Fits) (h : RowAt w v xs) (lx : xs.length ≤ 9223372036854775807) (lm : m ≤ 9223372036854775807) :
    Calls Tryz.prog 12 #[v, .int .i64 m] w fun e w' => e = .returned (.int .i64 (rowChk xs m)) ∧ Below w.heap.size w w' := by
  obtain ⟨p, c, rfl, rfl | ⟨b, off, rfl, hb, hv⟩⟩ := h
  · exact crow_nil p c m w lm
  · exact crow_core b off c m xs w fx hb hv lx lm

/-- Why rows behind one may not be a table's. -/
def rowsO (m : Nat) : Option (List Val) → List (List Val) → Int
  | _, [] => 0
  | none, r :: l => if rowChk r m = 0 then rowsO m (some r) l else rowChk r m
  | some p, r :: l => if rowChk r m = 0 then (if 0 ≤ rowC p r then 1 else rowsO m (some r) l) else rowChk r m
def tabChk (vs : List ByteArray) (rs : List (List Val)) : Int := if vs.length ≤ 8 ∧ riseB vs = true then rowsO vs.length none rs else 30

set_option maxRecDepth 100000 in
set_option maxHeartbeats 2000000 in
theorem tcheck_core (V : Value) (vs : List ByteArray) (b off c : Nat) (rs : List (List Val)) (w : World) (hV : StrsAt w V vs) (lv : vs.length ≤ 9223372036854775807) (fx : ∀ r ∈ rs, ∀ v ∈ r, v.Fits) (ls : ∀ r ∈ rs, r.length ≤ 9223372036854775807) (hb : b < w.heap.size) (hr : RowsAt w b off rs) (lr : rs.length ≤ 9223372036854775807) :
    Calls Tryz.prog 4 #[.agg #[V, .slice (some ⟨b, off, none⟩) rs.length c]] w fun e w' => e = .returned (.int .i64 (tabChk vs rs)) ∧ Below w.heap.size w w' := by
  obtain ⟨n, en⟩ : ∃ n : Nat, Hid (rs.length = n) := ⟨_, rfl⟩
  obtain ⟨m, em⟩ : ∃ m : Nat, Hid (vs.length = m) := ⟨_, rfl⟩
  rw [en.out] at lr ⊢
  have HR : Hid (RowsAt w b off rs) := hr
  clear hr
  have ct : Hid (∀ W : World, Below w.heap.size w W → Calls Tryz.prog 11 #[V] W fun e w' => e = .returned (.bool (riseB vs)) ∧ Below W.heap.size W w') := fun W hB => rise_any V vs W (by
    obtain ⟨p, c, e, h⟩ := hV
    refine ⟨p, c, e, ?_⟩
    rcases h with h | ⟨b, off, h1, h2, h3⟩
    · exact Or.inl h
    · exact Or.inr ⟨b, off, h1, Nat.lt_of_lt_of_le h2 hB.size, h3.below hB h2⟩) lv
  obtain ⟨p, cv, rfl, hV⟩ := hV
  rw [em.out] at lv ct ⊢
  go_enter Tryz.func4, Tryz.ntmps4
  by_cases h8 : m ≤ 8
  · have c1 : ¬ (8 : Int) < (m : Int) := by omega
    go_wp2_with fail
    refine (ct.out _ (by go_grown)).mono ?_
    rintro e w1 ⟨rfl, hb1⟩
    have b0 : w1.cell? ⟨w.heap.size, 0, none⟩ = some (.slice p m cv) := (hb1.cell (p := ⟨w.heap.size, 0, none⟩) (by simp)).trans (by simp (maxDischargeDepth := 8) [go_sem])
    have b1 : w1.cell? ⟨w.heap.size, 1, none⟩ = some (.slice (some ⟨b, off, none⟩) n c) := (hb1.cell (p := ⟨w.heap.size, 1, none⟩) (by simp)).trans (by simp (maxDischargeDepth := 8) [go_sem])
    have hs1 : w.heap.size < w1.heap.size := by have := hb1.size; simp at this; omega
    have hB1 : Below w.heap.size w w1 := by
      obtain ⟨hw1, -⟩ := bg0 (n := w.heap.size) (W0 := w) (by go_grown) (by go_size) hb1
      exact hw1
    clear hb1
    cases hri : riseB vs with
    | false =>
      have hz : Hid (tabChk vs rs = 30) := if_neg (by rw [hri]; simp)
      go_wp2
      go_ret
      exact ⟨ret_int hz.out.symm, hB1⟩
    | true =>
      have hz : Hid (tabChk vs rs = rowsO m none rs) := by unfold tabChk; rw [em.out]; exact if_pos ⟨h8, hri⟩
      clear hri ct
      have HR1 : Hid (RowsAt w1 b off rs) := HR.out.below hB1 hb
      have hb1 : b < w1.heap.size := Nat.lt_of_lt_of_le hb hB1.size
      clear HR
      go_wp2
      go_loopw [19] (fun i wr => ∃ (k : Nat) (prev : Option (List Val)), k ≤ n ∧ i = .int .i64 k ∧ Hid ((k = 0 ∧ prev = none) ∨ ∃ j, k = j + 1 ∧ ∃ hj : j < rs.length, prev = some rs[j]) ∧ Hid (rowsO m none rs = rowsO m prev (rs.drop k)) ∧ Below w1.heap.size w1 wr) (fun i _ => n - (intOf i).toNat)
      case atStart => exact ⟨0, none, Nat.zero_le _, rfl, Or.inl ⟨rfl, rfl⟩, (show rowsO m none rs = rowsO m none (rs.drop 0) by simp), Below.refl _ _⟩
      case round =>
        obtain ⟨k, prev, hk, rfl, hp, hr, hB⟩ := hrel
        by_cases hlt : k < n
        · have kx : k < rs.length := by have := en.out; omega
          obtain ⟨v, q1, q2⟩ := (HR1.out.below hB hb1) k kx
          have f1 := fx rs[k] (List.getElem_mem kx)
          have l1 := ls rs[k] (List.getElem_mem kx)
          have hr2 : Hid (rowsO m none rs = rowsO m prev (rs[k] :: rs.drop (k + 1))) := by
            have h := hr.out
            rwa [List.drop_eq_getElem_cons kx] at h
          clear hr
          have hnext : Hid (((k + 1 = 0 ∧ some rs[k] = none) ∨ ∃ j, k + 1 = j + 1 ∧ ∃ hj : j < rs.length, some rs[k] = some rs[j])) := Or.inr ⟨k, rfl, kx, rfl⟩
          generalize rs[k] = r at q2 f1 l1 hr2 hnext
          obtain ⟨C, eC⟩ : ∃ C : Int, Hid (rowChk r m = C) := ⟨_, rfl⟩
          have ct1 : Hid (∀ W : World, Below wr.heap.size wr W → Calls Tryz.prog 12 #[v, .int .i64 m] W fun e w' => e = .returned (.int .i64 C) ∧ Below W.heap.size W w') := fun W hW => by
            have h := crow_any v r m W f1 (q2.below hW) l1 lv
            rw [eC.out] at h
            exact h
          have Q2 : Hid (RowAt wr v r) := q2
          clear q2
          have c0 : wr.cell? ⟨w.heap.size, 0, none⟩ = some (.slice p m cv) := (hB.cell (p := ⟨w.heap.size, 0, none⟩) hs1).trans b0
          have c1' : wr.cell? ⟨w.heap.size, 1, none⟩ = some (.slice (some ⟨b, off, none⟩) n c) := (hB.cell (p := ⟨w.heap.size, 1, none⟩) hs1).trans b1
          go_wp2_with fail
          refine (ct1.out _ (by go_grown)).mono ?_
          rintro e w2 ⟨rfl, hb2⟩
          have hB2 : Below w1.heap.size w1 w2 := hB.trans (hb2.mono hB.size)
          have hBw : Below w.heap.size w w2 := hB1.trans (hB2.mono hB1.size)
          by_cases hC : C = 0
          · subst hC
            rcases hp.out with ⟨rfl, rfl⟩ | ⟨j, rfl, hj, rfl⟩
            · have hr3 : Hid (rowsO m none rs = rowsO m (some r) (rs.drop 1)) := by
                have h := hr2.out
                simp only [rowsO] at h
                rwa [if_pos eC.out] at h
              clear hr2 hp ct1 c0 c1' q1 hb2
              go_wp2
              exact ⟨⟨1, some r, by omega, rfl, hnext, hr3, hB2⟩, by simp [intOf]; omega⟩
            · have jn : j < n := by omega
              obtain ⟨v', q1', q2'⟩ := (HR1.out.below hB2 hb1) j hj
              have f2 := fx rs[j] (List.getElem_mem hj)
              have l2 := ls rs[j] (List.getElem_mem hj)
              have hr3 : Hid (rowsO m none rs = if 0 ≤ rowC rs[j] r then 1 else rowsO m (some r) (rs.drop (j + 1 + 1))) := by
                have h := hr2.out
                simp only [rowsO] at h
                rwa [if_pos eC.out] at h
              clear hr2 hp ct1 c0
              generalize rs[j] = r' at q2' f2 l2 hr3
              obtain ⟨D, eD⟩ : ∃ D : Int, Hid (rowC r' r = D) := ⟨_, rfl⟩
              rw [eD.out] at hr3
              have ct2 : Hid (∀ W : World, Below w2.heap.size w2 W → Calls Tryz.prog 13 #[v', v] W fun e w' => e = .returned (.int .i64 D) ∧ Below W.heap.size W w') := fun W hW => by
                have h := row_gen v' v r' r W f2 f1 (q2'.below hW) ((Q2.out.below hb2).below hW) l2 l1
                rw [eD.out] at h
                exact h
              have d1 : w2.cell? ⟨w.heap.size, 1, none⟩ = some (.slice (some ⟨b, off, none⟩) n c) := (hb2.cell (p := ⟨w.heap.size, 1, none⟩) (Nat.lt_of_lt_of_le hs1 hB.size)).trans c1'
              have ek : ((j + 1 : Nat) : Int) - 1 = (j : Int) := by omega
              have c3 : (0 : Int) < ((j + 1 : Nat) : Int) := by omega
              clear q2' f2 l2 q1 c1' hb2 Q2
              go_wp2_with fail
              refine (ct2.out _ (by go_grown)).mono ?_
              rintro e w3 ⟨rfl, hb3⟩
              have hB3 : Below w1.heap.size w1 w3 := hB2.trans (hb3.mono hB2.size)
              have hBw3 : Below w.heap.size w w3 := hB1.trans (hB3.mono hB1.size)
              clear ct2 hb3 q1' d1
              by_cases hD : 0 ≤ D
              · have hr4 : Hid (rowsO m none rs = 1) := by have h := hr3.out; rwa [if_pos hD] at h
                clear hr3
                go_wp2
                go_ret
                exact ⟨ret_int (hr4.out.symm.trans hz.out.symm), hBw3⟩
              · have hr4 : Hid (rowsO m none rs = rowsO m (some r) (rs.drop (j + 1 + 1))) := by have h := hr3.out; rwa [if_neg hD] at h
                clear hr3
                go_wp2
                exact ⟨⟨j + 1 + 1, some r, by omega, by go_num, hnext, hr4, hB3⟩, by simp [intOf]; omega⟩
          · have hr3 : Hid (rowsO m none rs = C) := by
              have h := hr2.out
              have e0 : ¬ rowChk r m = 0 := by rw [eC.out]; exact hC
              cases prev <;> (simp only [rowsO] at h; rw [if_neg e0, eC.out] at h; exact h)
            have hC' : (C != 0) = true := by simpa using hC
            clear hr2 hp ct1 c0 c1' q1 hb2
            go_wp2
            go_ret
            exact ⟨ret_int (hr3.out.symm.trans hz.out.symm), hBw⟩
        · have c2 : ¬ (k : Int) < n := by omega
          have hr3 : Hid (rowsO m none rs = 0) := by
            have h := hr.out
            rw [List.drop_eq_nil_of_le (by have := en.out; omega)] at h
            rw [h]; cases prev <;> rfl
          go_wp2
          go_ret
          exact ⟨ret_int (hr3.out.symm.trans hz.out.symm), hB1.trans (hB.mono hB1.size)⟩
  · have c1 : (8 : Int) < (m : Int) := by omega
    have hz : Hid (tabChk vs rs = 30) := if_neg (by rw [em.out]; omega)
    go_wp2
    go_ret
    exact ⟨ret_int hz.out.symm, by go_grown⟩

set_option maxRecDepth 100000 in
set_option maxHeartbeats 2000000 in
theorem tcheck_nil (V : Value) (vs : List ByteArray) (q : Option Addr) (c : Nat) (w : World) (hV : StrsAt w V vs) (lv : vs.length ≤ 9223372036854775807) :
    Calls Tryz.prog 4 #[.agg #[V, .slice q 0 c]] w fun e w' => e = .returned (.int .i64 (tabChk vs [])) ∧ Below w.heap.size w w' := by
  obtain ⟨m, em⟩ : ∃ m : Nat, Hid (vs.length = m) := ⟨_, rfl⟩
  have ct : Hid (∀ W : World, Below w.heap.size w W → Calls Tryz.prog 11 #[V] W fun e w' => e = .returned (.bool (riseB vs)) ∧ Below W.heap.size W w') := fun W hB => rise_any V vs W (by
    obtain ⟨p, c, e, h⟩ := hV
    refine ⟨p, c, e, ?_⟩
    rcases h with h | ⟨b, off, h1, h2, h3⟩
    · exact Or.inl h
    · exact Or.inr ⟨b, off, h1, Nat.lt_of_lt_of_le h2 hB.size, h3.below hB h2⟩) lv
  obtain ⟨p, cv, rfl, hV⟩ := hV
  rw [em.out] at lv ct ⊢
  go_enter Tryz.func4, Tryz.ntmps4
  by_cases h8 : m ≤ 8
  · have c1 : ¬ (8 : Int) < (m : Int) := by omega
    go_wp2_with fail
    refine (ct.out _ (by go_grown)).mono ?_
    rintro e w1 ⟨rfl, hb1⟩
    have b0 : w1.cell? ⟨w.heap.size, 0, none⟩ = some (.slice p m cv) := (hb1.cell (p := ⟨w.heap.size, 0, none⟩) (by simp)).trans (by simp (maxDischargeDepth := 8) [go_sem])
    have b1 : w1.cell? ⟨w.heap.size, 1, none⟩ = some (.slice q 0 c) := (hb1.cell (p := ⟨w.heap.size, 1, none⟩) (by simp)).trans (by simp (maxDischargeDepth := 8) [go_sem])
    have hB1 : Below w.heap.size w w1 := by
      obtain ⟨hw1, -⟩ := bg0 (n := w.heap.size) (W0 := w) (by go_grown) (by go_size) hb1
      exact hw1
    clear hb1
    cases hri : riseB vs with
    | false =>
      have hz : Hid (tabChk vs [] = 30) := if_neg (by rw [hri]; simp)
      go_wp2
      go_ret
      exact ⟨ret_int hz.out.symm, hB1⟩
    | true =>
      have hz : Hid (tabChk vs [] = 0) := by unfold tabChk; rw [em.out]; exact (if_pos ⟨h8, hri⟩).trans rfl
      clear hri ct
      go_wp2
      refine wp_loop_rounds 1 ?_
      rw [rounds_succ]
      go_wp2
      go_ret
      exact ⟨ret_int hz.out.symm, hB1⟩
  · have c1 : (8 : Int) < (m : Int) := by omega
    have hz : Hid (tabChk vs [] = 30) := if_neg (by rw [em.out]; omega)
    go_wp2
    go_ret
    exact ⟨ret_int hz.out.symm, by go_grown⟩

/-- The rows of a table, as a value tells them. -/
def TabRows (w : World) (v : Value) (rs : List (List Val)) : Prop := ∃ p c, v = .slice p rs.length c ∧ (rs = [] ∨ ∃ b off, p = some ⟨b, off, none⟩ ∧ b < w.heap.size ∧ RowsAt w b off rs)

/-- table.Check of any table. -/
theorem tcheck_any (V R : Value) (vs : List ByteArray) (rs : List (List Val)) (w : World) (hV : StrsAt w V vs) (lv : vs.length ≤ 9223372036854775807) (fx : ∀ r ∈ rs, ∀ v ∈ r, v.Fits) (ls : ∀ r ∈ rs, r.length ≤ 9223372036854775807) (hR : TabRows w R rs) (lr : rs.length ≤ 9223372036854775807) :
    Calls Tryz.prog 4 #[.agg #[V, R]] w fun e w' => e = .returned (.int .i64 (tabChk vs rs)) ∧ Below w.heap.size w w' := by
  obtain ⟨p, c, rfl, rfl | ⟨b, off, rfl, hb, hr⟩⟩ := hR
  · exact tcheck_nil V vs p c w hV lv
  · exact tcheck_core V vs b off c rs w hV lv fx ls hb hr lr

end Go.Proofs.YtiliaincniiijaaGreat

namespace Go.Proofs.YtiliaincniiijaaGreat
open Go.RowKit Go.Shelf
set_option linter.unusedVariables false

/-- Does one of the rest stand ahead of itself? -/
def repB (pre : List ByteArray) : List ByteArray → Bool
  | [] => false
  | x :: l => Lib.containsS pre x || repB (pre ++ [x]) l

set_option maxRecDepth 100000 in
set_option maxHeartbeats 2000000 in
theorem rep_core (b off c : Nat) (vs : List ByteArray) (w : World) (hb : b < w.heap.size) (hv : Strs w b off vs) (lv : vs.length ≤ 9223372036854775807) (lc : vs.length ≤ c) :
    Calls Tryz.prog 41 #[.slice (some ⟨b, off, none⟩) vs.length c] w fun e w' => e = .returned (.bool (repB [] vs)) ∧ Below w.heap.size w w' := by
  obtain ⟨n, en⟩ : ∃ n : Nat, Hid (vs.length = n) := ⟨_, rfl⟩
  rw [en.out] at lv lc ⊢
  have HV : Hid (Strs w b off vs) := hv
  clear hv
  go_enter Tryz.func41, Tryz.ntmps41
  go_wp2
  go_loopw [7] (fun i wr => ∃ k : Nat, k ≤ n ∧ i = .int .i64 k ∧ Hid (repB [] vs = repB (vs.take k) (vs.drop k)) ∧ wr = w) (fun i _ => n - (intOf i).toNat)
  case atStart => exact ⟨0, Nat.zero_le _, rfl, (show repB [] vs = repB (vs.take 0) (vs.drop 0) by simp), rfl⟩
  case round =>
    obtain ⟨k, hk, rfl, hr, rfl⟩ := hrel
    by_cases hlt : k < n
    · have kx : k < vs.length := by have := en.out; omega
      have q1 := HV.out k kx
      have hr2 : Hid (repB [] vs = (Lib.containsS (vs.take k) vs[k] || repB (vs.take (k + 1)) (vs.drop (k + 1)))) := by
        have h := hr.out
        rw [List.drop_eq_getElem_cons kx] at h
        rw [h, List.take_succ_eq_append_getElem kx]
        rfl
      clear hr
      generalize vs[k] = X at q1 hr2
      have kc : k ≤ c := by omega
      have ct : Hid (∀ c' : Nat, Calls Tryz.prog 52 #[.slice (some ⟨b, off, none⟩) k c', .string X] wr fun e w' => e = .returned (.bool (Lib.containsS (vs.take k) X)) ∧ w' = wr) := fun c' => Tryz.slices_Contains_string b off k c' vs X wr (by omega) (by omega) (fun j hj => by
        have h := HV.out j hj
        rw [h]
        simp [List.getD, hj])
      obtain ⟨L, eL⟩ : ∃ L : Bool, Hid (Lib.containsS (vs.take k) X = L) := ⟨_, rfl⟩
      rw [eL.out] at hr2 ct
      go_wp2_with fail
      refine (ct.out _).mono ?_
      rintro e w1 ⟨rfl, rfl⟩
      clear ct q1
      cases L with
      | true =>
        have hr4 : Hid (repB [] vs = true) := by have := hr2.out; rwa [Bool.true_or] at this
        go_wp2
        go_ret
        exact ⟨ret_bool hr4.out.symm, Below.refl _ _⟩
      | false =>
        have hr4 : Hid (repB [] vs = repB (vs.take (k + 1)) (vs.drop (k + 1))) := by have := hr2.out; rwa [Bool.false_or] at this
        go_wp2
        exact ⟨⟨k + 1, by omega, by go_num, hr4, trivial⟩, by simp [intOf]; omega⟩
    · have c2 : ¬ (k : Int) < n := by omega
      have hr4 : Hid (repB [] vs = false) := by
        have h := hr.out
        rw [List.drop_eq_nil_of_le (by have := en.out; omega)] at h
        exact h
      go_wp2
      go_ret
      exact ⟨ret_bool hr4.out.symm, Below.refl _ _⟩

set_option maxRecDepth 100000 in
theorem rep_nil (p : Option Addr) (c : Nat) (w : World) :
    Calls Tryz.prog 41 #[.slice p 0 c] w fun e w' => e = .returned (.bool false) ∧ w' = w := by
  go_enter Tryz.func41, Tryz.ntmps41
  go_wp2
  refine wp_loop_rounds 1 ?_
  rw [rounds_succ]
  go_wp2
  go_ret
  exact ⟨rfl, rfl⟩

end Go.Proofs.YtiliaincniiijaaGreat

namespace Go.Proofs.YtiliaincniiijaaGreat
open Go.RowKit Go.Shelf
set_option linter.unusedVariables false

end Go.Proofs.YtiliaincniiijaaGreat

namespace Go.Proofs.YtiliaincniiijaaGreat
open Go.RowKit Go.Shelf
set_option linter.unusedVariables false

/-- Are two rows the same, value by value? -/
def rowS : List Val → List Val → Bool
  | [], [] => true
  | x :: xs, y :: ys => x.same y && rowS xs ys
  | _, _ => false

theorem rowS_len {xs ys : List Val} (h : xs.length ≠ ys.length) : rowS xs ys = false := by
  induction xs generalizing ys with
  | nil =>
    cases ys with
    | nil => exact absurd rfl h
    | cons y ys => rfl
  | cons x xs ih =>
    cases ys with
    | nil => rfl
    | cons y ys =>
      show (x.same y && rowS xs ys) = false
      rw [ih (fun e => h (by simp [e])), Bool.and_false]

end Go.Proofs.YtiliaincniiijaaGreat

namespace Go.Proofs.YtiliaincniiijaaGreat
open Go.RowKit Go.Shelf
set_option linter.unusedVariables false

/-- Are two lists of rows the same, row by row? -/
def rowsS : List (List Val) → List (List Val) → Bool
  | [], [] => true
  | x :: xs, y :: ys => rowS x y && rowsS xs ys
  | _, _ => false
theorem StrsAt.below {w w' : World} {v : Value} {vs : List ByteArray} (h : StrsAt w v vs) (hb : Below w.heap.size w w') : StrsAt w' v vs := by
  obtain ⟨p, c, e, h⟩ := h
  refine ⟨p, c, e, ?_⟩
  rcases h with h | ⟨b, off, h1, h2, h3⟩
  · exact Or.inl h
  · exact Or.inr ⟨b, off, h1, Nat.lt_of_lt_of_le h2 hb.size, h3.below hb h2⟩

end Go.Proofs.YtiliaincniiijaaGreat

namespace Go.Proofs.YtiliaincniiijaaGreat
open Go.RowKit Go.Shelf
set_option linter.unusedVariables false

theorem inI : (Tryz.prog.info? 3).map (fun i => (i.zero, i.size, i.bytes)) = some (some (.int .i64 0), 1, 8) := by kernel_rfl
def encN (k : Nat) : Value := .int .i64 k
/-- A slice of numbers of the call's own. -/
def OwnI (B : Nat) (v : Value) (cs : List Nat) (w : World) : Prop := w.ownsRow B 3 1 v cs.length (cs.map encN)
theorem ownI_more {B : Nat} {v' : Value} {L : List Nat} {x : Nat} {w' : World} (h : w'.ownsRow B 3 1 v' (L.length + 1) (L.map encN ++ [encN x])) : OwnI B v' (L ++ [x]) w' := by
  unfold OwnI
  rw [List.length_append, List.map_append]
  exact h
theorem StrsAt.get {w : World} {p : Option Addr} {n c : Nat} {vs : List ByteArray} (h : StrsAt w (.slice p n c) vs) : n = vs.length ∧ ∀ k (hk : k < vs.length), ∃ b off, p = some ⟨b, off, none⟩ ∧ b < w.heap.size ∧ w.cell? ⟨b, off + k, none⟩ = some (.string vs[k]) := by
  obtain ⟨p', c', e, h⟩ := h
  injection e with e1 e2 e3
  subst e1
  refine ⟨e2, fun k hk => ?_⟩
  rcases h with rfl | ⟨b, off, rfl, hb, hs⟩
  · simp at hk
  · exact ⟨b, off, rfl, hb, hs k hk⟩
theorem StrsAt.form {w : World} {v : Value} {vs : List ByteArray} (h : StrsAt w v vs) : ∃ p c, v = .slice p vs.length c := by
  obtain ⟨p, c, e, -⟩ := h
  exact ⟨p, c, e⟩

theorem contS_any (U : Value) (us : List ByteArray) (X : ByteArray) (w : World) (h : StrsAt w U us) (lu : us.length ≤ 9223372036854775807) :
    Calls Tryz.prog 52 #[U, .string X] w fun e w' => e = .returned (.bool (Lib.containsS us X)) ∧ w' = w := by
  obtain ⟨p, c, rfl, rfl | ⟨b, off, rfl, hb, hs⟩⟩ := h
  · exact Tryz.slices_Contains_string_empty p c X w
  · have h := Tryz.slices_Contains_string b off us.length c us X w (Nat.le_refl _) lu (fun j hj => by rw [hs j hj]; simp [List.getD, hj])
    rwa [List.take_length] at h
theorem idxS_any (U : Value) (us : List ByteArray) (X : ByteArray) (w : World) (h : StrsAt w U us) (lu : us.length ≤ 9223372036854775807) :
    Calls Tryz.prog 67 #[U, .string X] w fun e w' => e = .returned (.int .i64 (Lib.idxOfS us X)) ∧ w' = w := by
  obtain ⟨p, c, rfl, rfl | ⟨b, off, rfl, hb, hs⟩⟩ := h
  · exact Tryz.slices_Index_string_empty p c X w
  · have h := Tryz.slices_Index_string b off us.length c us X w (Nat.le_refl _) lu (fun j hj => by rw [hs j hj]; simp [List.getD, hj])
    rwa [List.take_length] at h

/-- Where those of some variables stand that are none of others. -/
def outs (us : List ByteArray) : Nat → List ByteArray → List Nat
  | _, [] => []
  | k, x :: l => if Lib.containsS us x = true then outs us (k + 1) l else k :: outs us (k + 1) l

set_option maxRecDepth 100000 in
set_option maxHeartbeats 2000000 in
theorem cout_any (V U : Value) (vs us : List ByteArray) (w : World) (hV : StrsAt w V vs) (hU : StrsAt w U us) (lv : vs.length ≤ 1000000) (lu : us.length ≤ 9223372036854775807) :
    Calls Tryz.prog 30 #[V, U] w fun e w' => ∃ v, e = .returned v ∧ OwnI w.heap.size v (outs us 0 vs) w' ∧ Below w.heap.size w w' := by
  obtain ⟨i0, hi, hz0, hz1, hz2⟩ := info_parts inI
  have ct : Hid (∀ (X : ByteArray) (W : World), Below w.heap.size w W → Calls Tryz.prog 52 #[U, .string X] W fun e w' => e = .returned (.bool (Lib.containsS us X)) ∧ w' = W) := fun X W hB => contS_any U us X W (hU.below hB) lu
  obtain ⟨p, c, rfl⟩ := hV.form
  have HV : Hid (∀ k (hk : k < vs.length), ∃ b off, p = some ⟨b, off, none⟩ ∧ b < w.heap.size ∧ w.cell? ⟨b, off + k, none⟩ = some (.string vs[k])) := hV.get.2
  obtain ⟨n, en⟩ : ∃ n : Nat, Hid (vs.length = n) := ⟨_, rfl⟩
  rw [en.out] at lv ⊢
  clear hV hU lu
  go_enter Tryz.func30, Tryz.ntmps30
  go_wp2
  go_loopw [5, 10] (fun v i wr => ∃ (k : Nat) (L : List Nat), k ≤ n ∧ i = .int .i64 k ∧ L.length ≤ k ∧ Hid (outs us 0 vs = L ++ outs us k (vs.drop k)) ∧ Hid (OwnI w.heap.size v L wr) ∧ Below w.heap.size w wr) (fun _ i _ => n - (intOf i).toNat)
  case atStart => exact ⟨0, [], Nat.zero_le _, rfl, Nat.le_refl _, (show outs us 0 vs = [] ++ outs us 0 (vs.drop 0) by simp), World.ownsRow_nil _ _ _ _, Below.refl _ _⟩
  case round =>
    obtain ⟨k, L, hk, rfl, hL, hr, hI, hB⟩ := hrel
    by_cases hlt : k < n
    · have kx : k < vs.length := by have := en.out; omega
      obtain ⟨b, off, rfl, hb, q1⟩ := HV.out k kx
      have q2 : wr.cell? ⟨b, off + k, none⟩ = some (.string vs[k]) := (hB.cell (p := ⟨b, _, none⟩) hb).trans q1
      have hr2 : Hid (outs us 0 vs = L ++ outs us k (vs[k] :: vs.drop (k + 1))) := by
        have h := hr.out
        rwa [List.drop_eq_getElem_cons kx] at h
      clear hr q1
      generalize vs[k] = X at q2 hr2
      obtain ⟨C, eC⟩ : ∃ C : Bool, Hid (Lib.containsS us X = C) := ⟨_, rfl⟩
      have ct1 : Hid (Calls Tryz.prog 52 #[U, .string X] wr fun e w' => e = .returned (.bool C) ∧ w' = wr) := by
        have h := ct.out X wr hB
        rwa [eC.out] at h
      go_wp2_with fail
      refine ct1.out.mono ?_
      rintro e w1 ⟨rfl, rfl⟩
      clear ct1 q2
      cases C with
      | true =>
        have hr3 : Hid (outs us 0 vs = L ++ outs us (k + 1) (vs.drop (k + 1))) := by
          have h := hr2.out
          simp only [outs] at h
          rwa [if_pos eC.out] at h
        clear hr2
        go_wp2
        exact ⟨⟨k + 1, L, by omega, by go_num, by omega, hr3, hI, hB⟩, by simp [intOf]; omega⟩
      | false =>
        have hr3 : Hid (outs us 0 vs = (L ++ [k]) ++ outs us (k + 1) (vs.drop (k + 1))) := by
          have h := hr2.out
          simp only [outs] at h
          rw [if_neg (by rw [eC.out]; simp)] at h
          show outs us 0 vs = (L ++ [k]) ++ outs us (k + 1) (vs.drop (k + 1))
          rw [h]
          simp
        clear hr2
        have hsz := hB.size
        have HK : Hid (∀ q, u5.ownBlock = some q → w.heap.size ≤ q) := fun q hq => (World.ownsRow.lt hI.out q hq).1
        go_wp2_with (at_builtin; refine wpList_append_own _ rfl (.tmp 19) (.tmp 21) 54 rfl w.heap.size 3 i0 (.int .i64 0) 1 8 Tryz.underlying54 hi hz0 hz1 hz2 rfl (by decide) _ _ _ rfl (World.ownsRow.alloc hI.out _) ⟨w1.heap.size, 0, none⟩ 1 1 [encN k] rfl rfl ?c1 ?c2 (by unfold maxLen; omega) (by omega) (by simp; omega) ?grow)
        case c1 => (intro j u hj; rw [Addr.add_lit]; (rcases j with _ | j) <;> simp at hj; subst hj; simp (maxDischargeDepth := 12) [go_sem, encN])
        case c2 => (intro u hu; simp at hu; subst hu; rfl)
        case grow =>
          intro v' w2 h2 h3 _
          have o2 : Hid (OwnI w.heap.size v' (L ++ [k]) w2) := ownI_more h2
          have K2 : Below w.heap.size w w2 := Below.grown (hB.alloc hsz _) h3 (by simp; omega) HK.out
          clear h2 h3 hI HK
          go_wp2
          exact ⟨⟨k + 1, L ++ [k], by omega, by go_num, by simp; omega, hr3, o2, K2⟩, by simp [intOf]; omega⟩
    · have c2 : ¬ (k : Int) < n := by omega
      have hI2 : Hid (OwnI w.heap.size u5 (outs us 0 vs) wr) := by
        have h := hr.out
        rw [List.drop_eq_nil_of_le (by have := en.out; omega)] at h
        simp only [outs, List.append_nil] at h
        rw [h]
        exact hI.out
      clear hI hr
      go_wp2
      go_ret
      exact ⟨u5, rfl, hI2.out, hB⟩

end Go.Proofs.YtiliaincniiijaaGreat

namespace Go.Proofs.YtiliaincniiijaaGreat
open Go.RowKit Go.Shelf
set_option linter.unusedVariables false

/-- Numbers at a place, or none at all. -/
def IntsAt (w : World) (v : Value) (cs : List Nat) : Prop := ∃ p c, v = .slice p cs.length c ∧ (cs = [] ∨ ∃ b off, p = some ⟨b, off, none⟩ ∧ b < w.heap.size ∧ ∀ i (h : i < cs.length), w.cell? ⟨b, off + i, none⟩ = some (.int .i64 cs[i]))
theorem IntsAt.below {w w' : World} {v : Value} {cs : List Nat} (h : IntsAt w v cs) (hb : Below w.heap.size w w') : IntsAt w' v cs := by
  obtain ⟨p, c, e, h⟩ := h
  refine ⟨p, c, e, ?_⟩
  rcases h with h | ⟨b, off, h1, h2, h3⟩
  · exact Or.inl h
  · exact Or.inr ⟨b, off, h1, Nat.lt_of_lt_of_le h2 hb.size, fun i hi => (hb.cell (p := ⟨b, _, none⟩) h2).trans (h3 i hi)⟩
theorem IntsAt.get {w : World} {p : Option Addr} {n c : Nat} {cs : List Nat} (h : IntsAt w (.slice p n c) cs) : n = cs.length ∧ ∀ k (hk : k < cs.length), ∃ b off, p = some ⟨b, off, none⟩ ∧ b < w.heap.size ∧ w.cell? ⟨b, off + k, none⟩ = some (.int .i64 cs[k]) := by
  obtain ⟨p', c', e, h⟩ := h
  injection e with e1 e2 e3
  subst e1
  refine ⟨e2, fun k hk => ?_⟩
  rcases h with rfl | ⟨b, off, rfl, hb, hs⟩
  · simp at hk
  · exact ⟨b, off, rfl, hb, hs k hk⟩
theorem IntsAt.form {w : World} {v : Value} {cs : List Nat} (h : IntsAt w v cs) : ∃ p c, v = .slice p cs.length c := by
  obtain ⟨p, c, e, -⟩ := h
  exact ⟨p, c, e⟩
theorem OwnI.ints {B : Nat} {v : Value} {cs : List Nat} {w : World} (h : OwnI B v cs w) : IntsAt w v cs := by
  obtain ⟨hl, ⟨e, hn⟩ | ⟨g, cap, cur, rfl, hg1, hg2, hg3, hg4, hg5, hg6⟩⟩ := h
  · exact ⟨none, 0, by rw [e, hn], Or.inl (List.length_eq_zero_iff.1 hn)⟩
  · refine ⟨_, _, rfl, Or.inr ⟨g, 0, rfl, ?_, fun i hi => ?_⟩⟩
    · exact (Array.getElem?_eq_some_iff.1 hg2).1
    · have h : w.ownsRow B 3 1 (.slice (some ⟨g, 0, none⟩) cs.length cap) cs.length (cs.map encN) := ⟨hl, Or.inr ⟨g, cap, cur, rfl, hg1, hg2, hg3, hg4, hg5, hg6⟩⟩
      rw [Nat.zero_add, h.cellAt i (by omega)]
      simp [hi, encN]

theorem inS : (Tryz.prog.info? 9).map (fun i => (i.zero, i.size, i.bytes)) = some (some (.string ⟨#[]⟩), 1, 16) := by kernel_rfl
/-- A slice of texts of the call's own. -/
def OwnS (B : Nat) (v : Value) (vs : List ByteArray) (w : World) : Prop := w.ownsRow B 9 1 v vs.length (vs.map Value.string)
/-- Some of a list, by their places. -/
def picks {α : Type} (l : List α) (cs : List Nat) : List α := cs.filterMap (l[·]?)
theorem picks_len {α : Type} {l : List α} {cs : List Nat} (h : ∀ c ∈ cs, c < l.length) : (picks l cs).length = cs.length := by
  induction cs with
  | nil => rfl
  | cons c cs ih =>
    have h1 := h c (List.mem_cons_self ..)
    simp only [picks, List.filterMap_cons, List.getElem?_eq_getElem h1, List.length_cons]
    exact congrArg (· + 1) (ih fun x hx => h x (List.mem_cons_of_mem _ hx))
theorem picks_get {α : Type} {l : List α} {cs : List Nat} (h : ∀ c ∈ cs, c < l.length) (k : Nat) (hk : k < cs.length) : (picks l cs)[k]? = l[cs[k]]? := by
  induction cs generalizing k with
  | nil => simp at hk
  | cons c cs ih =>
    have h1 := h c (List.mem_cons_self ..)
    simp only [picks, List.filterMap_cons, List.getElem?_eq_getElem h1]
    cases k with
    | zero => simp [List.getElem?_eq_getElem h1]
    | succ k =>
      simp only [List.getElem?_cons_succ, List.getElem_cons_succ]
      exact ih (fun x hx => h x (List.mem_cons_of_mem _ hx)) k (by simpa using hk)

set_option maxRecDepth 100000 in
set_option maxHeartbeats 2000000 in
theorem pickS_any (V C : Value) (vs : List ByteArray) (cs : List Nat) (w : World) (hV : StrsAt w V vs) (hC : IntsAt w C cs) (hcs : ∀ c ∈ cs, c < vs.length) (lv : vs.length ≤ 9223372036854775807) (lc : cs.length ≤ 1000000) :
    Calls Tryz.prog 58 #[V, C] w fun e w' => ∃ v, e = .returned v ∧ OwnS w.heap.size v (picks vs cs) w' ∧ v ≠ .slice none 0 0 ∧ Below w.heap.size w w' := by
  obtain ⟨i0, hi, hz0, hz1, hz2⟩ := info_parts inS
  obtain ⟨p, c, rfl⟩ := hV.form
  obtain ⟨p', c', rfl⟩ := hC.form
  have HV : Hid (∀ k (hk : k < vs.length), ∃ b off, p = some ⟨b, off, none⟩ ∧ b < w.heap.size ∧ w.cell? ⟨b, off + k, none⟩ = some (.string vs[k])) := hV.get.2
  have HC : Hid (∀ k (hk : k < cs.length), ∃ b off, p' = some ⟨b, off, none⟩ ∧ b < w.heap.size ∧ w.cell? ⟨b, off + k, none⟩ = some (.int .i64 cs[k])) := hC.get.2
  obtain ⟨n, en⟩ : ∃ n : Nat, Hid (cs.length = n) := ⟨_, rfl⟩
  obtain ⟨m, em⟩ : ∃ m : Nat, Hid (vs.length = m) := ⟨_, rfl⟩
  rw [en.out] at lc ⊢
  rw [em.out] at lv ⊢
  clear hV hC
  obtain ⟨w1, hmk, ho, hg⟩ := run_make_full (P := Tryz.prog) w w.heap.size 22 9 i0 (.string ⟨#[]⟩) 1 Tryz.underlying22 hi hz0 hz1 .i64 .i64 n (by rw [hz2]; omega) (by unfold maxLen; omega) (Nat.le_refl _)
  have hB1 : Below w.heap.size w w1 := (Below.refl _ w).grown hg (Nat.le_refl _) (fun j hj => by cases hj)
  have HO : Hid (w1.ownsRow w.heap.size 9 1 (.slice (some ⟨w.heap.size, 0, none⟩) n n) n (madeCells (Value.string ⟨#[]⟩).cells (n * 1)).toList) := ho
  clear ho hg hi hz0 hz1 hz2
  go_enter Tryz.func58, Tryz.ntmps58
  go_wp2
  go_loopw [13] (fun i wr => ∃ (k : Nat), k ≤ n ∧ i = .int .i64 k ∧ Hid (∃ xs : List Value, wr.ownsRow w.heap.size 9 1 (.slice (some ⟨w.heap.size, 0, none⟩) n n) n xs ∧ ∀ j (hj : j < cs.length), j < k → xs[j]? = (vs[cs[j]]?).map Value.string) ∧ Below w.heap.size w wr) (fun i _ => n - (intOf i).toNat)
  case atStart => exact ⟨0, Nat.zero_le _, rfl, (⟨_, HO.out, fun j hj h => absurd h (Nat.not_lt_zero _)⟩ : ∃ xs : List Value, _), hB1⟩
  case round =>
    obtain ⟨k, hk, rfl, hI, hB⟩ := hrel
    by_cases hlt : k < n
    · have kx : k < cs.length := by have := en.out; omega
      obtain ⟨b', off', rfl, hb', q1⟩ := HC.out k kx
      have q2 : wr.cell? ⟨b', off' + k, none⟩ = some (.int .i64 cs[k]) := (hB.cell (p := ⟨b', _, none⟩) hb').trans q1
      have cx : cs[k] < vs.length := hcs _ (List.getElem_mem kx)
      obtain ⟨b, off, rfl, hb, q3⟩ := HV.out cs[k] cx
      have q4 : wr.cell? ⟨b, off + cs[k], none⟩ = some (.string vs[cs[k]]) := (hB.cell (p := ⟨b, _, none⟩) hb).trans q3
      obtain ⟨xs, ho, hx⟩ := hI.out
      have xk : k < xs.length := by rw [ho.1]; omega
      have q5 : wr.cell? ⟨w.heap.size, k, none⟩ = some xs[k] := by rw [ho.cellAt k (by omega), List.getElem?_eq_getElem xk]
      have q6 : wr.frozen? ⟨w.heap.size, k, none⟩ = false := ho.frozenAt k
      have cm : cs[k] < m := by have := em.out; omega
      obtain ⟨s1, s2⟩ := ho.stored k (.string vs[cs[k]])
      have o2 : Hid (∃ xs : List Value, (wr.setCell ⟨w.heap.size, k, none⟩ (.string vs[cs[k]])).ownsRow w.heap.size 9 1 (.slice (some ⟨w.heap.size, 0, none⟩) n n) n xs ∧ ∀ j (hj : j < cs.length), j < k + 1 → xs[j]? = (vs[cs[j]]?).map Value.string) := ⟨_, s1, fun j hj h => by
        by_cases hjk : j = k
        · subst hjk
          rw [List.getElem?_set_self xk, List.getElem?_eq_getElem cx]; rfl
        · rw [List.getElem?_set_ne (by omega)]
          exact hx j hj (by omega)⟩
      have K2 : Below w.heap.size w (wr.setCell ⟨w.heap.size, k, none⟩ (.string vs[cs[k]])) := hB.grown s2 (by have := hB.size; omega) (fun q hq => by injection hq with hq; omega)
      clear s1 s2 hx ho hI q1 q3
      generalize vs[cs[k]] = X at q4 o2 K2
      generalize cs[k] = C at q2 q4 cm cx
      generalize xs[k] = Y at q5
      go_wp2
      exact ⟨⟨k + 1, by omega, by go_num, o2, K2⟩, by simp [intOf]; omega⟩
    · have c2 : ¬ (k : Int) < n := by omega
      have hI2 : Hid (OwnS w.heap.size (.slice (some ⟨w.heap.size, 0, none⟩) n n) (picks vs cs) wr) := by
        obtain ⟨xs, ho, hx⟩ := hI.out
        have hlen := picks_len hcs
        have hn := en.out
        have e1 : xs = (picks vs cs).map Value.string := by
          apply List.ext_getElem?
          intro j
          by_cases hj : j < cs.length
          · rw [hx j hj (by omega), List.getElem?_map, picks_get hcs j hj]
          · rw [List.getElem?_eq_none (by rw [ho.1]; omega), List.getElem?_eq_none (by simp; omega)]
        show wr.ownsRow _ _ _ _ _ _
        rw [← e1, hlen, hn]
        exact ho
      clear hI
      go_wp2
      go_ret
      exact ⟨_, rfl, hI2.out, by simp, hB⟩

end Go.Proofs.YtiliaincniiijaaGreat

namespace Go.Proofs.YtiliaincniiijaaGreat
open Go.RowKit Go.Shelf
set_option linter.unusedVariables false

/-- A slice of values of the call's own. -/
def OwnV (B : Nat) (v : Value) (xs : List Val) (w : World) : Prop := w.ownsRow B 45 4 v xs.length (flat xs)
theorem RowAt.form {w : World} {v : Value} {xs : List Val} (h : RowAt w v xs) : ∃ p c, v = .slice p xs.length c := by
  obtain ⟨p, c, e, -⟩ := h
  exact ⟨p, c, e⟩
theorem RowAt.get {w : World} {p : Option Addr} {n c : Nat} {xs : List Val} (h : RowAt w (.slice p n c) xs) : n = xs.length ∧ ∀ i (hi : i < xs.length), ∃ b off, p = some ⟨b, off, none⟩ ∧ b < w.heap.size ∧ w.cell? ⟨b, off + i * 4, none⟩ = some (.int .i64 xs[i].k) ∧ w.cell? ⟨b, off + i * 4 + 1, none⟩ = some (.int .i64 xs[i].n) ∧ w.cell? ⟨b, off + i * 4 + 2, none⟩ = some (.int .i64 xs[i].d) ∧ w.cell? ⟨b, off + i * 4 + 3, none⟩ = some (.string xs[i].s) := by
  obtain ⟨p', c', e, h⟩ := h
  injection e with e1 e2 e3
  subst e1
  refine ⟨e2, fun k hk => ?_⟩
  rcases h with rfl | ⟨b, off, rfl, hb, hs⟩
  · simp at hk
  · exact ⟨b, off, rfl, hb, hs k hk⟩
theorem OwnV.row {B : Nat} {v : Value} {xs : List Val} {w : World} (h : OwnV B v xs w) : RowAt w v xs := by
  obtain ⟨hl, ⟨e, hn⟩ | ⟨g, cap, cur, rfl, hg1, hg2, hg3, hg4, hg5, hg6⟩⟩ := h
  · exact ⟨none, 0, by rw [e, hn], Or.inl (List.length_eq_zero_iff.1 hn)⟩
  · refine ⟨_, _, rfl, Or.inr ⟨g, 0, rfl, ?_, fun i hi => ?_⟩⟩
    · exact (Array.getElem?_eq_some_iff.1 hg2).1
    · have h : w.ownsRow B 45 4 (.slice (some ⟨g, 0, none⟩) xs.length cap) xs.length (flat xs) := ⟨hl, Or.inr ⟨g, cap, cur, rfl, hg1, hg2, hg3, hg4, hg5, hg6⟩⟩
      rw [Nat.zero_add]
      have c0 := flat_get xs i 0 hi (by omega)
      have c1 := flat_get xs i 1 hi (by omega)
      have c2 := flat_get xs i 2 hi (by omega)
      have c3 := flat_get xs i 3 hi (by omega)
      refine ⟨?_, ?_, ?_, ?_⟩
      · rw [h.cellAt _ (by omega)]; exact c0
      · rw [h.cellAt _ (by omega)]; exact c1
      · rw [h.cellAt _ (by omega)]; exact c2
      · rw [h.cellAt _ (by omega)]; exact c3

set_option maxRecDepth 100000 in
set_option maxHeartbeats 2000000 in
theorem pickV_any (V C : Value) (vs : List Val) (cs : List Nat) (w : World) (hV : RowAt w V vs) (hC : IntsAt w C cs) (hcs : ∀ c ∈ cs, c < vs.length) (lv : vs.length ≤ 9223372036854775807) (lc : cs.length ≤ 1000000) :
    Calls Tryz.prog 59 #[V, C] w fun e w' => ∃ v, e = .returned v ∧ OwnV w.heap.size v (picks vs cs) w' ∧ v ≠ .slice none 0 0 ∧ Below w.heap.size w w' := by
  obtain ⟨i0, hi, hz0, hz1, hz2⟩ := info_parts inV
  obtain ⟨p, c, rfl⟩ := hV.form
  obtain ⟨p', c', rfl⟩ := hC.form
  have HV : Hid (∀ i (hi : i < vs.length), ∃ b off, p = some ⟨b, off, none⟩ ∧ b < w.heap.size ∧ w.cell? ⟨b, off + i * 4, none⟩ = some (.int .i64 vs[i].k) ∧ w.cell? ⟨b, off + i * 4 + 1, none⟩ = some (.int .i64 vs[i].n) ∧ w.cell? ⟨b, off + i * 4 + 2, none⟩ = some (.int .i64 vs[i].d) ∧ w.cell? ⟨b, off + i * 4 + 3, none⟩ = some (.string vs[i].s)) := hV.get.2
  have HC : Hid (∀ k (hk : k < cs.length), ∃ b off, p' = some ⟨b, off, none⟩ ∧ b < w.heap.size ∧ w.cell? ⟨b, off + k, none⟩ = some (.int .i64 cs[k])) := hC.get.2
  obtain ⟨n, en⟩ : ∃ n : Nat, Hid (cs.length = n) := ⟨_, rfl⟩
  obtain ⟨m, em⟩ : ∃ m : Nat, Hid (vs.length = m) := ⟨_, rfl⟩
  rw [en.out] at lc ⊢
  rw [em.out] at lv ⊢
  clear hV hC
  obtain ⟨w1, hmk, ho, hg⟩ := run_make_full (P := Tryz.prog) w w.heap.size 26 45 i0 (.agg #[.int .i64 0, .int .i64 0, .int .i64 0, .string ⟨#[]⟩]) 4 Tryz.underlying26 hi hz0 hz1 .i64 .i64 n (by rw [hz2]; omega) (by unfold maxLen; omega) (Nat.le_refl _)
  have hB1 : Below w.heap.size w w1 := (Below.refl _ w).grown hg (Nat.le_refl _) (fun j hj => by cases hj)
  have HO : Hid (w1.ownsRow w.heap.size 45 4 (.slice (some ⟨w.heap.size, 0, none⟩) n n) n (madeCells (Value.agg #[.int .i64 0, .int .i64 0, .int .i64 0, .string ⟨#[]⟩]).cells (n * 4)).toList) := ho
  clear ho hg hi hz0 hz1 hz2
  go_enter Tryz.func59, Tryz.ntmps59
  go_wp2
  go_loopw [13] (fun i wr => ∃ (k : Nat), k ≤ n ∧ i = .int .i64 k ∧ Hid (∃ xs : List Value, wr.ownsRow w.heap.size 45 4 (.slice (some ⟨w.heap.size, 0, none⟩) n n) n xs ∧ ∀ j (hj : j < cs.length), j < k → ∀ t, t < 4 → xs[j * 4 + t]? = (vs[cs[j]]?).bind fun x => (vcells x)[t]?) ∧ Below w.heap.size w wr) (fun i _ => n - (intOf i).toNat)
  case atStart => exact ⟨0, Nat.zero_le _, rfl, (⟨_, HO.out, fun j hj h => absurd h (Nat.not_lt_zero _)⟩ : ∃ xs : List Value, _), hB1⟩
  case round =>
    obtain ⟨k, hk, rfl, hI, hB⟩ := hrel
    by_cases hlt : k < n
    · have kx : k < cs.length := by have := en.out; omega
      obtain ⟨b', off', rfl, hb', q1⟩ := HC.out k kx
      have q2 : wr.cell? ⟨b', off' + k, none⟩ = some (.int .i64 cs[k]) := (hB.cell (p := ⟨b', _, none⟩) hb').trans q1
      have cx : cs[k] < vs.length := hcs _ (List.getElem_mem kx)
      obtain ⟨b, off, rfl, hb, r0, r1, r2, r3⟩ := HV.out cs[k] cx
      have a0 := (hB.cell (p := ⟨b, off + cs[k] * 4, none⟩) hb).trans r0
      have a1 := (hB.cell (p := ⟨b, off + cs[k] * 4 + 1, none⟩) hb).trans r1
      have a2 := (hB.cell (p := ⟨b, off + cs[k] * 4 + 2, none⟩) hb).trans r2
      have a3 := (hB.cell (p := ⟨b, off + cs[k] * 4 + 3, none⟩) hb).trans r3
      obtain ⟨xs, ho, hx⟩ := hI.out
      have xk : k * 4 + 3 < xs.length := by rw [ho.1]; omega
      have q5 : ∀ t, t < 4 → wr.cell? ⟨w.heap.size, k * 4 + t, none⟩ = xs[k * 4 + t]? := fun t ht => ho.cellAt _ (by omega)
      have q50 : wr.cell? ⟨w.heap.size, k * 4, none⟩ = xs[k * 4]? := ho.cellAt _ (by omega)
      have q51 := q5 1 (by omega)
      have q52 := q5 2 (by omega)
      have q53 := q5 3 (by omega)
      rw [List.getElem?_eq_getElem (by omega)] at q50 q51 q52 q53
      have q60 : wr.frozen? ⟨w.heap.size, k * 4, none⟩ = false := ho.frozenAt _
      have q61 : wr.frozen? ⟨w.heap.size, k * 4 + 1, none⟩ = false := ho.frozenAt _
      have q62 : wr.frozen? ⟨w.heap.size, k * 4 + 2, none⟩ = false := ho.frozenAt _
      have q63 : wr.frozen? ⟨w.heap.size, k * 4 + 3, none⟩ = false := ho.frozenAt _
      have cm : cs[k] < m := by have := em.out; omega
      have HX : Hid (vs[cs[k]]? = some vs[cs[k]]) := List.getElem?_eq_getElem cx
      generalize vs[cs[k]] = X at a0 a1 a2 a3 HX
      obtain ⟨s1, g1⟩ := ho.stored (k * 4) (.int .i64 X.k)
      obtain ⟨s2, g2⟩ := s1.stored (k * 4 + 1) (.int .i64 X.n)
      obtain ⟨s3, g3⟩ := s2.stored (k * 4 + 2) (.int .i64 X.d)
      obtain ⟨s4, g4⟩ := s3.stored (k * 4 + 3) (.string X.s)
      have hb1 := hB.size
      have hq : ∀ q, (some w.heap.size : Option Nat) = some q → w.heap.size ≤ q := fun q hq => by injection hq with hq; omega
      have K1 := hB.grown g1 hb1 hq
      have K2 := K1.grown g2 K1.size hq
      have K3 := K2.grown g3 K2.size hq
      have K4 := K3.grown g4 K3.size hq
      clear K1 K2 K3 g1 g2 g3 g4 s1 s2 s3 hq
      have o2 : Hid (∃ xs : List Value, ((((wr.setCell ⟨w.heap.size, k * 4, none⟩ (.int .i64 X.k)).setCell ⟨w.heap.size, k * 4 + 1, none⟩ (.int .i64 X.n)).setCell ⟨w.heap.size, k * 4 + 2, none⟩ (.int .i64 X.d)).setCell ⟨w.heap.size, k * 4 + 3, none⟩ (.string X.s)).ownsRow w.heap.size 45 4 (.slice (some ⟨w.heap.size, 0, none⟩) n n) n xs ∧ ∀ j (hj : j < cs.length), j < k + 1 → ∀ t, t < 4 → xs[j * 4 + t]? = (vs[cs[j]]?).bind fun x => (vcells x)[t]?) := ⟨_, s4, fun j hj h t ht => by
        by_cases hjk : j = k
        · subst hjk
          rw [HX.out]
          rcases t with _ | _ | _ | _ | t
          · simp only [Nat.add_zero]; rw [List.getElem?_set_ne (by omega), List.getElem?_set_ne (by omega), List.getElem?_set_ne (by omega), List.getElem?_set_self (by omega)]; rfl
          · rw [List.getElem?_set_ne (by omega), List.getElem?_set_ne (by omega), List.getElem?_set_self (by simp; omega)]; rfl
          · rw [List.getElem?_set_ne (by omega), List.getElem?_set_self (by simp; omega)]; rfl
          · rw [List.getElem?_set_self (by simp; omega)]; rfl
          · omega
        · rw [List.getElem?_set_ne (by omega), List.getElem?_set_ne (by omega), List.getElem?_set_ne (by omega), List.getElem?_set_ne (by omega)]
          exact hx j hj (by omega) t ht⟩
      clear s4 hx ho hI q1 r0 r1 r2 r3 q5
      generalize cs[k] = C at q2 a0 a1 a2 a3 cm cx
      generalize xs[k * 4] = Y0 at q50
      generalize xs[k * 4 + 1] = Y1 at q51
      generalize xs[k * 4 + 2] = Y2 at q52
      generalize xs[k * 4 + 3] = Y3 at q53
      go_wp2
      exact ⟨⟨k + 1, by omega, by go_num, o2, K4⟩, by simp [intOf]; omega⟩
    · have c2 : ¬ (k : Int) < n := by omega
      have hI2 : Hid (OwnV w.heap.size (.slice (some ⟨w.heap.size, 0, none⟩) n n) (picks vs cs) wr) := by
        obtain ⟨xs, ho, hx⟩ := hI.out
        have hlen := picks_len hcs
        have hn := en.out
        have hfl := flat_len (picks vs cs)
        have e1 : xs = flat (picks vs cs) := by
          apply List.ext_getElem?
          intro q
          by_cases hq : q < n * 4
          · have e2 : q = q / 4 * 4 + q % 4 := by omega
            have hj : q / 4 < cs.length := by omega
            have h1 := hx (q / 4) hj (by omega) (q % 4) (by omega)
            have hp : q / 4 < (picks vs cs).length := by omega
            have h2 := flat_get (picks vs cs) (q / 4) (q % 4) hp (by omega)
            have h3 := picks_get hcs (q / 4) hj
            rw [List.getElem?_eq_getElem hp] at h3
            rw [← e2] at h1 h2
            rw [h1, h2, ← h3]
            rfl
          · rw [List.getElem?_eq_none (by rw [ho.1]; omega), List.getElem?_eq_none (by omega)]
        show wr.ownsRow _ _ _ _ _ _
        rw [← e1, hlen, hn]
        exact ho
      clear hI
      go_wp2
      go_ret
      exact ⟨_, rfl, hI2.out, by simp, hB⟩

end Go.Proofs.YtiliaincniiijaaGreat

namespace Go.Proofs.YtiliaincniiijaaGreat
open Go.RowKit Go.Shelf
set_option linter.unusedVariables false

theorem picks_cons {α : Type} {l : List α} {c : Nat} {cs : List Nat} (h : c < l.length) : picks l (c :: cs) = l[c] :: picks l cs := by
  simp [picks, List.getElem?_eq_getElem h]

set_option maxRecDepth 100000 in
set_option maxHeartbeats 2000000 in
theorem byc_any (C ra rb : Value) (cs : List Nat) (x y : List Val) (B : Nat) (w : World) (hB : B < w.heap.size) (hbox : w.cell? ⟨B, 0, none⟩ = some C) (hC : IntsAt w C cs) (hx : RowAt w ra x) (hy : RowAt w rb y) (fx : ∀ v ∈ x, v.Fits) (fy : ∀ v ∈ y, v.Fits)
    (cx : ∀ c ∈ cs, c < x.length) (cy : ∀ c ∈ cs, c < y.length) (lc : cs.length ≤ 9223372036854775807) (lx : x.length ≤ 9223372036854775807) (ly : y.length ≤ 9223372036854775807) :
    Calls Tryz.prog 72 #[ra, rb, .pointer (some ⟨B, 0, none⟩)] w fun e w' => e = .returned (.int .i64 (rowC (picks x cs) (picks y cs))) ∧ Below w.heap.size w w' := by
  obtain ⟨p, c, rfl⟩ := hC.form
  obtain ⟨p1, c1, rfl⟩ := hx.form
  obtain ⟨p2, c2, rfl⟩ := hy.form
  have HC : Hid (∀ k (hk : k < cs.length), ∃ b off, p = some ⟨b, off, none⟩ ∧ b < w.heap.size ∧ w.cell? ⟨b, off + k, none⟩ = some (.int .i64 cs[k])) := hC.get.2
  have HX : Hid (RowAt w (.slice p1 x.length c1) x) := hx
  have HY : Hid (RowAt w (.slice p2 y.length c2) y) := hy
  obtain ⟨n, en⟩ : ∃ n : Nat, Hid (cs.length = n) := ⟨_, rfl⟩
  obtain ⟨m1, em1⟩ : ∃ m : Nat, Hid (x.length = m) := ⟨_, rfl⟩
  obtain ⟨m2, em2⟩ : ∃ m : Nat, Hid (y.length = m) := ⟨_, rfl⟩
  have CX : Hid (∀ c ∈ cs, c < x.length) := cx
  have CY : Hid (∀ c ∈ cs, c < y.length) := cy
  rw [en.out] at lc hbox
  rw [em1.out] at lx HX ⊢
  rw [em2.out] at ly HY ⊢
  clear hC hx hy cx cy
  go_enter Tryz.func72, Tryz.ntmps72
  go_wp2
  go_loopw [11] (fun i wr => ∃ k : Nat, k ≤ n ∧ i = .int .i64 k ∧ Hid (rowC (picks x cs) (picks y cs) = rowC (picks x (cs.drop k)) (picks y (cs.drop k))) ∧ Below w.heap.size w wr) (fun i _ => n - (intOf i).toNat)
  case atStart => exact ⟨0, Nat.zero_le _, rfl, (show rowC (picks x cs) (picks y cs) = rowC (picks x (cs.drop 0)) (picks y (cs.drop 0)) by simp), Below.refl _ _⟩
  case round =>
    obtain ⟨k, hk, rfl, hr, hB⟩ := hrel
    by_cases hlt : k < n
    · have kx : k < cs.length := by have := en.out; omega
      obtain ⟨b, off, rfl, hb, q1⟩ := HC.out k kx
      have q2 : wr.cell? ⟨b, off + k, none⟩ = some (.int .i64 cs[k]) := (hB.cell (p := ⟨b, _, none⟩) hb).trans q1
      have ix : cs[k] < x.length := CX.out _ (List.getElem_mem kx)
      have iy : cs[k] < y.length := CY.out _ (List.getElem_mem kx)
      have hr2 : Hid (rowC (picks x cs) (picks y cs) = if (x[cs[k]]).cmp (y[cs[k]]) = 0 then rowC (picks x (cs.drop (k + 1))) (picks y (cs.drop (k + 1))) else (x[cs[k]]).cmp (y[cs[k]])) := by
        have h := hr.out
        rw [List.drop_eq_getElem_cons kx, picks_cons ix, picks_cons iy] at h
        exact h
      obtain ⟨b1, off1, rfl, hb1, r0, r1, r2, r3⟩ := HX.out.get.2 _ ix
      obtain ⟨b2, off2, rfl, hb2, t0, t1, t2, t3⟩ := HY.out.get.2 _ iy
      have a0 := (hB.cell (p := ⟨b1, off1 + cs[k] * 4, none⟩) hb1).trans r0
      have a1 := (hB.cell (p := ⟨b1, off1 + cs[k] * 4 + 1, none⟩) hb1).trans r1
      have a2 := (hB.cell (p := ⟨b1, off1 + cs[k] * 4 + 2, none⟩) hb1).trans r2
      have a3 := (hB.cell (p := ⟨b1, off1 + cs[k] * 4 + 3, none⟩) hb1).trans r3
      have b0' := (hB.cell (p := ⟨b2, off2 + cs[k] * 4, none⟩) hb2).trans t0
      have b1' := (hB.cell (p := ⟨b2, off2 + cs[k] * 4 + 1, none⟩) hb2).trans t1
      have b2' := (hB.cell (p := ⟨b2, off2 + cs[k] * 4 + 2, none⟩) hb2).trans t2
      have b3' := (hB.cell (p := ⟨b2, off2 + cs[k] * 4 + 3, none⟩) hb2).trans t3
      have f1 := fx x[cs[k]] (List.getElem_mem ix)
      have f2 := fy y[cs[k]] (List.getElem_mem iy)
      have jx : cs[k] < m1 := by have := em1.out; omega
      have jy : cs[k] < m2 := by have := em2.out; omega
      clear r0 r1 r2 r3 t0 t1 t2 t3 q1 hr
      generalize x[cs[k]] = X at a0 a1 a2 a3 f1 hr2
      generalize y[cs[k]] = Y at b0' b1' b2' b3' f2 hr2
      generalize cs[k] = D at q2 a0 a1 a2 a3 b0' b1' b2' b3' ix iy jx jy
      have hbr : b1 < wr.heap.size := Nat.lt_of_lt_of_le hb1 hB.size
      have hbr' : b2 < wr.heap.size := Nat.lt_of_lt_of_le hb2 hB.size
      obtain ⟨E, eE⟩ : ∃ E : Int, Hid (X.cmp Y = E) := ⟨_, rfl⟩
      have ct : Hid (∀ W : World, Calls Tryz.prog 37 #[.agg #[.int .i64 X.k, .int .i64 X.n, .int .i64 X.d, .string X.s], .agg #[.int .i64 Y.k, .int .i64 Y.n, .int .i64 Y.d, .string Y.s]] W fun e w' => e = .returned (.int .i64 E) ∧ Below W.heap.size W w') := fun W => by
        have h := vcompare_any X.k X.n X.d X.s Y.k Y.n Y.d Y.s W f1.n1 f1.n2 f1.d1 f1.d2 f2.n1 f2.n2 f2.d1 f2.d2
        rw [show vcmp X.k X.n X.d X.s Y.k Y.n Y.d Y.s = E from eE.out] at h
        exact h
      rw [eE.out] at hr2
      clear f1 f2
      go_upto_region 4 with fail
      go_region_held3 (fun w' => w'.cell? ⟨b1, off1 + D * 4, none⟩ = some (.int .i64 X.k) ∧ w'.cell? ⟨b1, off1 + D * 4 + 1, none⟩ = some (.int .i64 X.n) ∧ w'.cell? ⟨b1, off1 + D * 4 + 2, none⟩ = some (.int .i64 X.d) ∧ w'.cell? ⟨b1, off1 + D * 4 + 3, none⟩ = some (.string X.s) ∧ w'.cell? ⟨b2, off2 + D * 4, none⟩ = some (.int .i64 Y.k) ∧ w'.cell? ⟨b2, off2 + D * 4 + 1, none⟩ = some (.int .i64 Y.n) ∧ w'.cell? ⟨b2, off2 + D * 4 + 2, none⟩ = some (.int .i64 Y.d) ∧ w'.cell? ⟨b2, off2 + D * 4 + 3, none⟩ = some (.string Y.s))
        (exact ⟨bcl (n := wr.heap.size) (by go_grown) a0 hbr, bcl (n := wr.heap.size) (by go_grown) a1 hbr, bcl (n := wr.heap.size) (by go_grown) a2 hbr, bcl (n := wr.heap.size) (by go_grown) a3 hbr, bcl (n := wr.heap.size) (by go_grown) b0' hbr', bcl (n := wr.heap.size) (by go_grown) b1' hbr', bcl (n := wr.heap.size) (by go_grown) b2' hbr', bcl (n := wr.heap.size) (by go_grown) b3' hbr'⟩)
        (first
          | (go_at_call 37; refine (ct.out _).mono ?_; rintro e v1 ⟨rfl, hv1⟩; obtain ⟨hw1, hn1⟩ := bg0 (n := wr.heap.size) (W0 := wr) (by go_grown) (by go_size) hv1; clear hv1))
      clear a0 a1 a2 a3 b0' b1' b2' b3'
      have hB2 : Below w.heap.size w v1 := hB.trans (hw1.mono hB.size)
      clear hw1 hB
      by_cases hC : E = 0
      · have hr3 : Hid (rowC (picks x cs) (picks y cs) = rowC (picks x (cs.drop (k + 1))) (picks y (cs.drop (k + 1)))) := by have := hr2.out; rw [if_pos hC] at this; exact this
        clear hr2 eE ct
        subst hC
        go_wp2
        exact ⟨⟨k + 1, by omega, by go_num, hr3, hB2⟩, by simp [intOf]; omega⟩
      · have hC' : (E != 0) = true := by simpa using hC
        go_wp2
        go_ret
        exact ⟨ret_int (by have := hr2.out; rw [if_neg hC] at this; exact this.symm), hB2⟩
    · have c2 : ¬ (k : Int) < n := by omega
      have hz : Hid (rowC (picks x cs) (picks y cs) = 0) := by
        have h := hr.out
        rw [List.drop_eq_nil_of_le (by have := en.out; omega)] at h
        rw [h]
        rfl
      clear hr
      go_wp2
      go_ret
      exact ⟨ret_int hz.out.symm, hB⟩

end Go.Proofs.YtiliaincniiijaaGreat

namespace Go.Proofs.YtiliaincniiijaaGreat
open Go.RowKit Go.Sort
set_option linter.unusedVariables false

def rw' {α : Type} : Result α → World
  | .ok _ w => w
  | .halt _ w => w

theorem ask_mono {α : Type} (a : Ask α) : ∀ w : World, w.drawn ≤ (w.ask a).2.drawn := by
  induction a with
  | done a => intro w; exact Nat.le_refl _
  | ask what range k ih =>
    intro w
    unfold World.ask
    dsimp only
    split
    · exact ih _ _
    · exact Nat.le_trans (Nat.le_succ _) (ih _ { w with drawn := w.drawn + 1 })

theorem sys_mono (w : World) (c : Sys) : w.drawn ≤ (w.sys c).2.drawn := by
  have h := ask_mono (Kernel.perform c w.os) w
  unfold World.sys
  split
  · exact Nat.le_refl _
  · rename_i e; rw [e] at h; exact h

theorem store_mono {p : Program} {w w' : World} {a : Addr} {v : Value} {b : Bool} {l : List Addr} (h : w.farStore p a v b = .ok (w', l)) : w.drawn ≤ w'.drawn := by
  unfold World.farStore at h
  split at h
  · split at h
    · rename_i at_ u _ r hr
      injection h with h
      subst h
      unfold World.viewStore at hr
      simp only [bind, Except.bind, pure, Except.pure] at hr
      repeat' (split at hr)
      all_goals first
        | (injection hr with hr; injection hr with hr _; subst hr; exact Nat.le_refl _)
        | cases hr
    · cases h
  · cases h

theorem freeze_mono (w : World) (a : Addr) (n : Nat) : (w.freeze a n).drawn = w.drawn := by
  unfold World.freeze
  repeat' split
  all_goals rfl

theorem run_mono {α : Type} (p : Program) (s : Sem α) : ∀ w : World, w.drawn ≤ (rw' (s.run p w)).drawn := by
  induction s with
  | pure a => intro w; exact Nat.le_refl _
  | load m a k ih =>
    intro w
    simp only [Sem.run]
    split
    · exact ih _ _
    · split
      · exact ih _ _
      · exact Nat.le_refl _
  | store m a v k ih =>
    intro w
    cases v <;> simp only [Sem.run] <;> (try exact Nat.le_refl _)
    all_goals
      split
      · split
        · exact Nat.le_refl _
        · exact ih (w.setCell a _)
      · split
        · rename_i hs; exact Nat.le_trans (store_mono hs) (ih _)
        · exact Nat.le_refl _
  | new o k ih => intro w; exact ih _ { w with heap := w.heap.push o }
  | shape r k ih => intro w; exact ih _ _
  | freeze a n k ih => intro w; have h := ih (w.freeze a n); rw [freeze_mono] at h; exact h
  | frozen a k ih => intro w; exact ih _ _
  | getObj r k ih =>
    intro w
    simp only [Sem.run]
    split
    all_goals first | exact Nat.le_refl _ | exact ih _ _
  | setObj r o k ih =>
    intro w
    simp only [Sem.run]
    split
    all_goals first | exact Nat.le_refl _ | exact ih { w with heap := w.heap.setIfInBounds r o }
  | choose q k ih =>
    intro w
    simp only [Sem.run]
    split
    · exact ih _ _
    · exact Nat.le_trans (Nat.le_succ _) (ih _ { w with drawn := w.drawn + 1 })
  | sys c k ih => intro w; exact Nat.le_trans (sys_mono w c) (ih _ _)
  | program k ih => intro w; exact ih _ _
  | mark m k ih => intro w; exact ih _
  | halt h => intro w; exact Nat.le_refl _

theorem runT_mono {α : Type} (p : Program) (s : Sem α) : ∀ (w : World) (es : Array Event), w.drawn ≤ (rw' (s.runT p w es).1).drawn := by
  induction s with
  | pure a => intro w es; exact Nat.le_refl _
  | load m a k ih =>
    intro w es
    simp only [Sem.runT]
    split
    · exact ih _ _ _
    · split
      · exact ih _ _ _
      · exact Nat.le_refl _
  | store m a v k ih =>
    intro w es
    cases v <;> simp only [Sem.runT] <;> (try exact Nat.le_refl _)
    all_goals
      split
      · split
        · exact Nat.le_refl _
        · exact ih (w.setCell a _) _
      · split
        · rename_i hs; exact Nat.le_trans (store_mono hs) (ih _ _)
        · exact Nat.le_refl _
  | new o k ih => intro w es; exact ih _ { w with heap := w.heap.push o } _
  | shape r k ih => intro w es; exact ih _ _ _
  | freeze a n k ih => intro w es; have h := ih (w.freeze a n) es; rw [freeze_mono] at h; exact h
  | frozen a k ih => intro w es; exact ih _ _ _
  | getObj r k ih =>
    intro w es
    simp only [Sem.runT]
    split
    all_goals first | exact Nat.le_refl _ | exact ih _ _ _
  | setObj r o k ih =>
    intro w es
    simp only [Sem.runT]
    split
    all_goals first | exact Nat.le_refl _ | exact ih { w with heap := w.heap.setIfInBounds r o } _
  | choose q k ih =>
    intro w es
    simp only [Sem.runT]
    split
    · exact ih _ _ _
    · exact Nat.le_trans (Nat.le_succ _) (ih _ { w with drawn := w.drawn + 1 } _)
  | sys c k ih => intro w es; exact Nat.le_trans (sys_mono w c) (ih _ _ _)
  | program k ih => intro w es; exact ih _ _ _
  | mark m k ih => intro w es; exact ih _ _
  | halt h => intro w es; exact Nat.le_refl _

theorem run_ok {α : Type} {p : Program} {s : Sem α} {w w1 : World} {a : α} (e : s.run p w = .ok a w1) : w.drawn ≤ w1.drawn := by
  have h := run_mono p s w
  rw [e] at h
  exact h
theorem run_halt {α : Type} {p : Program} {s : Sem α} {w w1 : World} {a : Halt} (e : s.run p w = .halt a w1) : w.drawn ≤ w1.drawn := by
  have h := run_mono p s w
  rw [e] at h
  exact h
theorem runT_ok {α : Type} {p : Program} {s : Sem α} {w w1 : World} {a : α} {es es' : Array Event} (e : s.runT p w es = (.ok a w1, es')) : w.drawn ≤ w1.drawn := by
  have h := runT_mono p s w es
  rw [e] at h
  exact h
theorem runT_halt {α : Type} {p : Program} {s : Sem α} {w w1 : World} {a : Halt} {es es' : Array Event} (e : s.runT p w es = (.halt a w1, es')) : w.drawn ≤ w1.drawn := by
  have h := runT_mono p s w es
  rw [e] at h
  exact h
theorem runT1_ok {α : Type} {p : Program} {s : Sem α} {w w1 : World} {a : α} {es : Array Event} (e : (s.runT p w es).1 = .ok a w1) : w.drawn ≤ w1.drawn := by
  have h := runT_mono p s w es
  rw [e] at h
  exact h
theorem runT1_halt {α : Type} {p : Program} {s : Sem α} {w w1 : World} {a : Halt} {es : Array Event} (e : (s.runT p w es).1 = .halt a w1) : w.drawn ≤ w1.drawn := by
  have h := runT_mono p s w es
  rw [e] at h
  exact h

def gw : GStep → World
  | .go _ w _ => w
  | .comm _ _ _ _ w _ => w
  | .spawn _ _ w _ => w
  | .count _ w _ => w
  | .timer _ _ w _ => w
  | .alone _ _ w _ => w
  | .newcoro _ _ _ w _ => w
  | .coroswitch _ _ _ w _ => w
  | .collect _ w _ => w
  | .watch _ w _ => w
  | .ended _ w _ => w
theorem gw_after (es : Array Event) (g : GStep) : gw (GStep.after es g) = gw g := by cases g <;> rfl

theorem return_mono (p : Program) (main : Bool) (fr : Frame) (cs : List Frame) (d : Option Dying) (v : Value) (w : World) : gw (doReturn p main fr cs d v w) = w := by
  unfold doReturn
  repeat' split
  all_goals rfl
theorem throw_mono (fr : Frame) (m : String) (w : World) : gw (endThrow fr m w) = w := rfl
theorem printing_mono (p : Program) (fr : Frame) (v : Value) (w : World) : gw (endPrinting p fr v w) = w := by
  unfold endPrinting
  dsimp only
  split <;> rfl
theorem fatal_mono (p : Program) (fr : Frame) (cs : List Frame) (d : Option Dying) (m : String) (w : World) : w.drawn ≤ (gw (endFatal p fr cs d m w)).drawn := by
  unfold endFatal
  dsimp only
  split <;> rename_i e <;> first | exact run_ok e | exact run_halt e
theorem with_mono (w : World) (fd : Nat) (t : ByteArray) (o : Outcome) : w.drawn ≤ (gw (endWith w fd t o)).drawn := by
  unfold endWith
  dsimp only
  have h := sys_mono w (.write fd t)
  split <;> rename_i e <;> rw [e] at h
  · split <;> exact h
  · exact h
  · exact h
theorem write_mono (p : Program) (fr : Frame) (d : Dying) (f : Fatal) (w : World) : w.drawn ≤ (gw (writeOn p fr d f w)).drawn := by
  unfold writeOn
  dsimp only
  split
  · exact Nat.le_refl _
  · split <;> rename_i e <;> first | exact runT_ok e | exact runT_halt e
theorem die_mono (p : Program) (fr : Frame) (d : Dying) (w : World) : w.drawn ≤ (gw (die p fr d w)).drawn := by
  unfold die
  split
  · exact write_mono _ _ _ _ _
  · split
    · split
      · exact Nat.le_refl _
      · exact with_mono _ _ _ _
    · dsimp only
      split
      · exact Nat.le_refl _
      · rename_i s _
        have h := run_mono p (withAddress s) w
        split <;> rename_i e <;> rw [e] at h <;> exact h
      · rw [gw_after]
        split <;> rename_i e <;> (try rw [printing_mono]) <;> first | exact runT1_ok e | exact runT1_halt e | exact Nat.le_refl _
      · exact Nat.le_refl _

theorem ite_le {n : Nat} {c : Prop} [Decidable c] {a b : GStep} (h1 : n ≤ (gw a).drawn) (h2 : n ≤ (gw b).drawn) : n ≤ (gw (if c then a else b)).drawn := by split <;> assumption
theorem deferred_mono (p : Program) (fr : Frame) (cs : List Frame) (dy : Option Dying) (d : Deferred) (w : World) : w.drawn ≤ (gw (callDeferred p fr cs dy d w)).drawn := by
  unfold callDeferred
  refine ite_le ?_ ?_
  · exact Nat.le_refl _
  · dsimp only
    rw [gw_after]
    split <;> rename_i e <;> (try split) <;> first | exact runT1_ok e | exact runT1_halt e | exact Nat.le_trans (runT1_halt e) (fatal_mono _ _ _ _ _ _) | skip
    all_goals first | (rename_i e _; exact runT1_ok e) | (rename_i e _ _; exact runT1_ok e) | skip

theorem unwind_mono (p : Program) (main : Bool) (fr : Frame) (cs : List Frame) (dy : Option Dying) (w : World) : w.drawn ≤ (gw (unwind p main fr cs dy w)).drawn := by
  unfold unwind
  split
  · dsimp only
    rw [gw_after]
    split <;> rename_i e <;> first | exact runT1_ok e | exact runT1_halt e
  · exact deferred_mono _ _ _ _ _ _
  · split
    · exact Nat.le_refl _
    · split
      · exact Nat.le_refl _
      · split
        · exact Nat.le_refl _
        · split
          · split
            · exact Nat.le_refl _
            · split <;> rename_i e <;> first | exact run_ok e | exact run_halt e
          · split
            · rw [printing_mono]; exact Nat.le_refl _
            · exact Nat.le_refl _
    · split
      · rw [return_mono]; exact Nat.le_refl _
      · dsimp only
        rw [gw_after]
        split <;> rename_i e <;> (try rw [return_mono]) <;> first | exact runT1_ok e | exact runT1_halt e

theorem early_mono (p : Program) (fr : Frame) (cs : List Frame) (dy : Option Dying) (g : Nat) (w : World) : w.drawn ≤ (gw (early p fr cs dy g w)).drawn := by
  unfold early
  dsimp only
  repeat' split
  all_goals first
    | exact Nat.le_refl _
    | (rename_i e; first | exact Nat.le_trans (run_ok e) (Nat.le_refl _) | exact run_halt e)
    | (rename_i e _; first | exact Nat.le_trans (run_ok e) (Nat.le_refl _) | exact run_halt e)
    | (rename_i e _ _; first | exact Nat.le_trans (run_ok e) (Nat.le_refl _) | exact run_halt e)
    | (rename_i e _ _ _; first | exact Nat.le_trans (run_ok e) (Nat.le_refl _) | exact run_halt e)
    | (rename_i e _ _ _ _; first | exact Nat.le_trans (run_ok e) (Nat.le_refl _) | exact run_halt e)

theorem apply_mono (p : Program) (main li : Bool) (fr : Frame) (cs : List Frame) (dy : Option Dying) (s : Sem Next) (w : World) : w.drawn ≤ (gw (stepG.apply p li fr cs dy s w)).drawn := by
  unfold stepG.apply
  dsimp only
  rw [gw_after]
  have h : ∀ r es, (if li = true then s.runT p w #[] else (s.run p w, #[])) = (r, es) → w.drawn ≤ (rw' r).drawn := by
    intro r es e
    split at e
    · have h := runT_mono p s w #[]; rw [e] at h; exact h
    · injection e with e1 e2; rw [← e1]; exact run_mono p s w
  generalize hR : (if li = true then s.runT p w #[] else (s.run p w, #[])) = R at h
  obtain ⟨r, es⟩ := R
  have h := h r es rfl
  clear hR
  dsimp only
  split <;> (try split) <;> (try split) <;> (try rw [throw_mono]) <;> first
    | exact h
    | exact Nat.le_trans h (fatal_mono _ _ _ _ _ _)
    | exact Nat.le_trans h (early_mono _ _ _ _ _ _)
    | skip

theorem oper_mono (p : Program) (main li : Bool) (fr : Frame) (cs : List Frame) (dy : Option Dying) (w : World) : w.drawn ≤ (gw (stepG.oper p li fr cs dy w)).drawn := by
  unfold stepG.oper
  split
  · exact Nat.le_refl _
  · split <;> exact apply_mono p main _ _ _ _ _ _

theorem opt_le {α : Type} {n : Nat} (o : Option α) (a : GStep) (f : α → GStep) (h1 : n ≤ (gw a).drawn) (h2 : ∀ x, n ≤ (gw (f x)).drawn) : n ≤ (gw (o.elim a f)).drawn := by
  cases o with
  | none => exact h1
  | some x => exact h2 x
theorem exec_mono (p : Program) (main li : Bool) (fr : Frame) (cs : List Frame) (dy : Option Dying) (w : World) : w.drawn ≤ (gw (stepG.exec p main li fr cs dy w)).drawn := by
  unfold stepG.exec
  dsimp only
  split
  all_goals (try exact Nat.le_refl _)
  all_goals (try exact apply_mono p main _ _ _ _ _ _)
  all_goals (try refine opt_le _ _ _ ?_ ?_)
  all_goals (try intro _)
  all_goals (try exact Nat.le_refl _)
  all_goals (try exact apply_mono p main _ _ _ _ _ _)
  all_goals (try split)
  all_goals (try exact Nat.le_refl _)
  all_goals (try exact oper_mono p main _ _ _ _ _)
  all_goals (try rw [gw_after])
  all_goals (try split)
  all_goals (try exact Nat.le_refl _)
  all_goals (try rw [return_mono])
  all_goals (try (rename_i e; first | exact runT1_ok e | exact runT1_halt e | exact run_ok e | exact run_halt e | exact Nat.le_trans (runT1_ok e) (apply_mono p main _ _ _ _ _ _)))

theorem stepG_mono (p : Program) (main li : Bool) (g : Goroutine) (w : World) : w.drawn ≤ (gw (stepG p main g w li)).drawn := by
  unfold stepG
  dsimp only
  split
  · exact die_mono _ _ _ _
  · exact exec_mono _ _ _ _ _ _ _
  · exact unwind_mono _ _ _ _ _ _

/-- Where a step leads, no draw is taken back. -/
def sok (n : Nat) : Stepped → Prop
  | .next m => n ≤ m.world.drawn
  | .ended _ _ => True

theorem look_mono (p : Program) (gs : Array Goroutine) (rest : Rest) (w : World) : sok w.drawn (look p gs rest w) := by
  unfold look
  split
  · dsimp only
    split
    · trivial
    · split
      · trivial
      · split
        · rename_i e; exact Nat.le_trans (run_ok e) (Nat.le_refl _)
        · trivial
        · trivial
  · trivial

theorem comm_mono (p : Program) (rest : Rest) (gs : Array Goroutine) (i : Nat) (g : Goroutine) (cases' : Array CommCase) (bl : Bool) (sh : CommShape) (w : World) : sok w.drawn (communicate p rest gs i g cases' bl sh w).1 := by
  unfold communicate
  dsimp only
  split
  · trivial
  · split
    · split
      · split
        · rename_i e
          unfold waitingAt at e
          split at e
          · split at e
            · injection e with e; rw [← e]; exact Nat.le_refl _
            · cases e
          · injection e with e; rw [← e]; exact Nat.le_refl _
        · trivial
      · exact Nat.le_refl _
    · split
      · trivial
      · rename_i e
        have h := run_ok e
        split
        · split
          · rename_i e2; exact Nat.le_trans h (run_halt e2)
          · trivial
        · exact h
        · exact h
        · split
          · exact h
          · split
            · rename_i e2; exact Nat.le_trans h (Nat.le_trans (run_ok e2) (Nat.le_refl _))
            · trivial
        · exact h
        · exact h
        · trivial

theorem drain_mono (w : World) (c : Nat) : (drain w c).2.drawn = w.drawn := by
  unfold drain
  split <;> rfl
theorem retime_mono (m : Machine) (k : Nat) (t : Timer) (a b : Nat) : (retime m k t a b).2.world.drawn = m.world.drawn := by
  unfold retime
  dsimp only
  split
  · exact drain_mono _ _
  · rfl
theorem named_mono {m m1 m' : Machine} {var : Addr} {v : Value} {f : Nat → Timer → Nat × Nat} (h : timerOp.named m var (fun k t => retime m1 k t (f k t).1 (f k t).2) = .ok (v, m')) : m1.world.drawn = m'.world.drawn := by
  unfold timerOp.named at h
  split at h
  · injection h with h
    dsimp only at h
    have e := congrArg (fun r : Value × Machine => r.2.world.drawn) h
    dsimp only at e
    rw [retime_mono] at e
    exact e
  · cases h
theorem timer_mono (m : Machine) (op : TimerOp) (v : Value) (m' : Machine) (h : timerOp m op = .ok (v, m')) : m.world.drawn = m'.world.drawn := by
  unfold timerOp at h
  split at h
  · split at h
    · injection h with h; injection h with _ h; rw [← h]; rfl
    · split at h
      · split at h
        · cases h
        · injection h with h; injection h with _ h; rw [← h]
      · cases h
  · exact named_mono (f := fun k t => (0, t.period)) h
  · split at h
    · rename_i m1 e
      have h2 := named_mono (f := fun k t => (_, _)) h
      unfold timerOp.opened at e
      split at e
      · split at e
        · injection e with e; rw [← e] at h2; exact h2
        · cases e
      · injection e with e; rw [← e] at h2; exact h2
    · cases h
  · injection h with h; injection h with _ h; rw [← h]; rfl

theorem serve_mono (p : Program) (m : Machine) (k : Nat) : sok m.world.drawn (serve p m k) := by
  unfold serve
  split
  · trivial
  · exact Nat.le_refl _
  · dsimp only
    split
    · trivial
    · exact Nat.le_refl _

/-- Where a machine moves, no draw is taken back. -/
def mok (n : Nat) : Move → Prop
  | .goroutine m _ => n ≤ m.world.drawn
  | .machine s _ => sok n s
theorem sok_le {n k : Nat} {s : Stepped} (h : n ≤ k) (hs : sok k s) : sok n s := by
  cases s with
  | next m => exact Nat.le_trans h hs
  | ended _ _ => trivial

theorem askOn_mono (p : Program) (m : Machine) : mok m.world.drawn (askOn p m) := by
  unfold askOn
  dsimp only
  split
  · trivial
  · rename_i e
    have h := run_ok e
    split
    · exact sok_le h (serve_mono p _ _)
    · split
      · split
        · exact h
        · split
          · exact h
          · split <;> trivial
      · split
        · split
          · trivial
          · rename_i e2
            have h2 := Nat.le_trans h (run_ok e2)
            split
            · exact h2
            · split
              · trivial
              · rename_i e3; exact Nat.le_trans h2 (Nat.le_trans (run_ok e3) (Nat.le_refl _))
        · split
          · trivial
          · rename_i e2
            have h2 := Nat.le_trans h (run_ok e2)
            split
            · trivial
            · rename_i e3
              have h3 := Nat.le_trans h2 (run_ok e3)
              split
              · exact h3
              · split
                · trivial
                · rename_i e4; exact Nat.le_trans h3 (Nat.le_trans (run_ok e4) (Nat.le_refl _))
          · rename_i e2
            exact Nat.le_trans h (Nat.le_trans (run_ok e2) (Nat.le_refl _))
          · rename_i e2
            have h2 := Nat.le_trans h (run_ok e2)
            split
            · trivial
            · rename_i e3
              have h4 := run_ok e3
              have h3 := Nat.le_trans h2 h4
              split
              · exact h3
              · split
                · trivial
                · rename_i e4; exact Nat.le_trans h3 (Nat.le_trans (run_ok e4) (Nat.le_refl _))

theorem mok_le {n k : Nat} {s : Move} (h : n ≤ k) (hs : mok k s) : mok n s := by
  cases s with
  | goroutine m _ => exact Nat.le_trans h hs
  | machine s _ => exact sok_le h hs

theorem ask_mono' (p : Program) (m : Machine) : mok m.world.drawn (ask p m) := by
  unfold ask
  split
  · split
    · trivial
    · rename_i w1 e
      have h := run_ok e
      have h2 := look_mono p m.gs m.rest w1
      split
      · rename_i e2
        rw [e2] at h2
        exact mok_le (Nat.le_trans h h2) (askOn_mono p _)
      · exact sok_le h h2
    · rename_i e
      exact mok_le (run_ok e) (askOn_mono p _)
  · exact askOn_mono p m

theorem move_mono (p : Program) (m : Machine) : mok m.world.drawn (move p m) := by
  unfold move
  split
  · split
    · exact Nat.le_refl _
    · trivial
  · split
    · split
      · exact Nat.le_refl _
      · exact ask_mono' p { m with rest := { m.rest with slice := none } }
    · exact ask_mono' p m

theorem runT_step_mono (p : Program) (m : Machine) (i : Nat) (li : Bool) : sok m.world.drawn (Go.runT p m i li).1 := by
  unfold Go.runT
  dsimp only
  generalize hg : m.gs.swapAt! i _ = G
  obtain ⟨g, gs⟩ := G
  dsimp only
  have h := stepG_mono p (i == 0) li g m.world
  generalize stepG p (i == 0) g m.world li = s at h
  cases s with
  | go g w es => exact h
  | comm g c b sh w es => exact sok_le h (comm_mono p _ _ _ _ _ _ _ w)
  | spawn g ch w es => exact h
  | count g w es =>
    dsimp only
    split
    · trivial
    · exact h
  | timer g op w es =>
    dsimp only
    split
    · rename_i e
      have h2 := timer_mono _ _ _ _ e
      exact Nat.le_trans h (Nat.le_of_eq h2)
    · split
      · rename_i e; unfold endThrow dieOf at e; injection e with e1 e2; rw [← e2]; exact h
      · trivial
    · trivial
    · trivial
  | alone g on w es => exact h
  | newcoro g c d w es => exact h
  | coroswitch g c ex w es =>
    dsimp only
    split
    · exact h
    · split
      · rename_i e; unfold endThrow dieOf at e; injection e with e1 e2; rw [← e2]; exact h
      · trivial
    · trivial
  | collect g w es => exact sok_le h (look_mono p _ _ w)
  | watch g w es => exact h
  | ended o w es => trivial

theorem step_mono (p : Program) (m : Machine) : sok m.world.drawn (step p m) := by
  unfold step stepT
  have h := move_mono p m
  split
  · rename_i e; rw [e] at h; exact sok_le h (runT_step_mono p _ _ _)
  · rename_i e; rw [e] at h; exact h

theorem runN_mono (p : Program) : ∀ (n : Nat) (m m' : Machine), runN p n m = .next m' → m.world.drawn ≤ m'.world.drawn
  | 0, m, m', h => by injection h with h; rw [h]; exact Nat.le_refl _
  | n + 1, m, m', h => by
    unfold runN at h
    have hs := step_mono p m
    split at h
    · rename_i e; rw [e] at hs; exact Nat.le_trans hs (runN_mono p n _ _ h)
    · rename_i hne; exact absurd h (by intro h2; exact hne _ h2)

/-- What a call's contract says, and besides that no draw is taken back. -/
theorem Calls.drawn {P : Program} {f : FuncId} {args : Array Value} {w : World} {v : Value} {R : World → Prop} (h : Calls P f args w fun e w' => e = .returned v ∧ R w') :
    Calls P f args w fun e w' => e = .returned v ∧ R w' ∧ w.drawn ≤ w'.drawn := by
  intro cs
  obtain ⟨e, w', fr, ⟨rfl, hR⟩, hc, hf, hl⟩ := h cs
  refine ⟨_, w', fr, ⟨rfl, hR, ?_⟩, hc, hf, hl⟩
  obtain ⟨n, hn⟩ := hc
  exact runN_mono P n _ _ hn

/-- A world that has kept all that was there is the old one, with draws and blocks more. -/
theorem grown_of_below {w w' : World} (h : Below w.heap.size w w') (hd : w.drawn ≤ w'.drawn) : ∃ q os, w' = grow (w.drewN q) os := by
  obtain ⟨⟨d, os⟩, rfl⟩ := regrown_of_below h
  refine ⟨d - w.drawn, os, ?_⟩
  have hd' : w.drawn ≤ d := hd
  have e : w.drewN (d - w.drawn) = redrawn w d := by
    unfold World.drewN redrawn
    congr 1
    omega
  rw [e]

end Go.Proofs.YtiliaincniiijaaGreat

namespace Go.Proofs.YtiliaincniiijaaGreat
open Go.RowKit Go.Shelf Go.Sort Go.Lib
set_option linter.unusedVariables false

theorem grownBy_grow (w : World) (os : Array Obj) (row : Option Nat) : w.grownBy (grow w os) row :=
  ⟨rfl, rfl, rfl, by simp, fun k hk _ => heap_grow_old w os hk⟩

theorem grownBy_sort {α : Type} [Inhabited α] (enc : α → Value) (w : World) (blk m : Nat) (dk : Array α) (os : Array Obj) : w.grownBy (sortWorld enc w blk 0 m dk os) (some blk) := by
  refine ⟨rfl, rfl, rfl, by simp [sortWorld], fun k hk hne => ?_⟩
  unfold sortWorld
  rw [heap_grow_old _ _ (by simpa using hk)]
  have hk' : blk ≠ k := fun e => hne (by rw [e])
  simp [putRow, mapBlock, Sort.ahead, Array.getElem?_modify, hk']

theorem sort_gen {P : Program} {ρ : Ren} {α : Type} [Inhabited α] (L : SlLaysF.n6 P ρ) (enc : α → Value) (h1 : OneCell enc) (cf : α → α → Int) (hO : SWO (ltOf cf)) (g : Nat) (cb : Array Value) (zs : List α) (v : Value) (base e : Nat) (w : World)
    (eg : ∀ args w, (callFunc g args).run P w = .ok (.enter g args) w) (hown : w.ownsRow base e 1 v zs.length (zs.map enc)) (hv : v ≠ .slice none 0 0) (hsz : zs.length < 4611686018427387904)
    (hcmp : ∀ blk, v.ownBlock = some blk → ∀ W, w.grownBy W (some blk) → ∀ x y, Calls P g (#[enc x, enc y] ++ cb) W fun e w' => e = .returned (.int .i64 (cf x y)) ∧ Below W.heap.size W w') :
    Calls P (ρ.f 6) #[v, .func (.func g) #[] cb] w fun e' w' => e' = .returned (.tuple #[]) ∧ ∃ ys : List α, ys.Perm zs ∧ ys.Pairwise (fun a b => ¬ cf b a < 0) ∧ w'.ownsRow base e 1 v zs.length (ys.map enc) ∧ ∃ blk, v.ownBlock = some blk ∧ w.grownBy w' (some blk) := by
  obtain ⟨g0, cap, rfl, hb, hlt, hn, hm, hl, hH⟩ := holds_of_ownsRow hown hv
  have es : zs.toArray.size = zs.length := by simp
  have hc := Any.slices_SortFunc L enc h1 cf hO g cb g0 0 cap zs.toArray w eg (fun m os dk hs x y =>
    (Calls.drawn (hcmp g0 rfl _ (grownBy_sort enc w g0 m dk os) x y)).mono fun e w' ⟨he, hb, hd⟩ => ⟨he, grown_of_below hb hd⟩) hH hlt (by rw [es]; exact hsz)
  rw [es] at hc
  refine hc.mono ?_
  rintro e' w' ⟨rfl, d', n, os, hp, hs, rfl⟩
  obtain ⟨hp1, -, hp2⟩ := hp
  rw [es] at hp1
  refine ⟨rfl, d'.toList, ?_, ?_, ?_, g0, rfl, grownBy_sort enc w g0 n d' os⟩
  · have e1 : (zs.toArray.extract 0 zs.length).toList = zs := by simp
    have e2 : (d'.extract 0 zs.length).toList = d'.toList := by rw [← hp1]; simp
    rw [e1, e2] at hp2
    exact hp2
  · rw [List.pairwise_iff_getElem]
    intro i j hi hj hij
    have hi' : i < d'.size := by simpa using hi
    have hj' : j < d'.size := by simpa using hj
    have h := hs i j (Nat.zero_le _) hij (by omega)
    rw [getElem!_pos d' i hi', getElem!_pos d' j hj'] at h
    simpa [ltOf] using h
  · have h := Lib.ownsRow_putRow (q := n) (ys := d'.toList) (k := zs.length) hown (by simpa using hp1) (Nat.le_refl _)
    rw [List.take_of_length_le (by simp [hp1])] at h
    exact World.ownsRow.kept h (grownBy_grow _ os none) (Or.inr (by intro h; cases h))

end Go.Proofs.YtiliaincniiijaaGreat

namespace Go.Proofs
open Go.Shelf
def Tryz.sfI_ren : Go.Shelf.Ren := ⟨fun | 6 => 61 | 15 => 70 | 14 => 75 | 28 => 91 | 29 => 92 | 20 => 101 | 21 => 102 | 22 => 103 | 23 => 104 | 24 => 105 | 25 => 106 | 26 => 107 | 27 => 108 | 46 => 124 | 47 => 117 | 48 => 118 | 49 => 125 | 50 => 126 | 57 => 133 | n => n, fun | 22 => 54 | 24 => 3 | 25 => 63 | 3 => 3 | 39 => 99 | 0 => 0 | 53 => 120 | 55 => 122 | 4 => 4 | 46 => 112 | 45 => 111 | 50 => 117 | 5 => 5 | 9 => 9 | 66 => 141 | 70 => 145 | 76 => 155 | 77 => 156 | n => n, fun | n => n⟩
theorem Tryz.sfI : Go.Proofs.SlLaysF.n6 Tryz.prog Tryz.sfI_ren := {
  mixed := by kernel_rfl
  f6 := ⟨Tryz.f61.name, by decide, Tryz.func61.trans (congrArg some (by kernel_rfl))⟩
  f14 := ⟨Tryz.f75.name, by decide, Tryz.func75.trans (congrArg some (by kernel_rfl))⟩
  f15 := Tryz.func70.trans (congrArg some (by kernel_rfl))
  f20 := ⟨Tryz.f101.name, by decide, Tryz.func101.trans (congrArg some (by kernel_rfl))⟩
  f21 := ⟨Tryz.f102.name, by decide, Tryz.func102.trans (congrArg some (by kernel_rfl))⟩
  f22 := ⟨Tryz.f103.name, by decide, Tryz.func103.trans (congrArg some (by kernel_rfl))⟩
  f23 := ⟨Tryz.f104.name, by decide, Tryz.func104.trans (congrArg some (by kernel_rfl))⟩
  f24 := ⟨Tryz.f105.name, by decide, Tryz.func105.trans (congrArg some (by kernel_rfl))⟩
  f25 := ⟨Tryz.f106.name, by decide, Tryz.func106.trans (congrArg some (by kernel_rfl))⟩
  f26 := ⟨Tryz.f107.name, by decide, Tryz.func107.trans (congrArg some (by kernel_rfl))⟩
  f27 := ⟨Tryz.f108.name, by decide, Tryz.func108.trans (congrArg some (by kernel_rfl))⟩
  f28 := Tryz.func91.trans (congrArg some (by kernel_rfl))
  f29 := Tryz.func92.trans (congrArg some (by kernel_rfl))
  f46 := ⟨Tryz.f124.name, by decide, Tryz.func124.trans (congrArg some (by kernel_rfl))⟩
  f47 := Tryz.func117.trans (congrArg some (by kernel_rfl))
  f48 := Tryz.func118.trans (congrArg some (by kernel_rfl))
  f49 := ⟨Tryz.f125.name, by decide, Tryz.func125.trans (congrArg some (by kernel_rfl))⟩
  f50 := ⟨Tryz.f126.name, by decide, Tryz.func126.trans (congrArg some (by kernel_rfl))⟩
  f57 := ⟨Tryz.f133.name, by decide, Tryz.func133.trans (congrArg some (by kernel_rfl))⟩
  t0 := Tryz.underlying0
  a0 := Tryz.isAgg0
  z0 := Tryz.sizeOf0
  v0 := Tryz.zeroValue0
  t3 := Tryz.underlying3
  a3 := Tryz.isAgg3
  z3 := Tryz.sizeOf3
  v3 := Tryz.zeroValue3
  t4 := Tryz.underlying4
  a4 := Tryz.isAgg4
  z4 := Tryz.sizeOf4
  v4 := Tryz.zeroValue4
  t5 := Tryz.underlying5
  a5 := Tryz.isAgg5
  z5 := Tryz.sizeOf5
  v5 := Tryz.zeroValue5
  t9 := Tryz.underlying9
  a9 := Tryz.isAgg9
  z9 := Tryz.sizeOf9
  v9 := Tryz.zeroValue9
  t22 := Tryz.underlying54
  a22 := Tryz.isAgg54
  z22 := Tryz.sizeOf54
  v22 := Tryz.zeroValue54
  a24 := Tryz.isAgg3
  z24 := Tryz.sizeOf3
  t25 := Tryz.underlying63
  a25 := Tryz.isAgg63
  z25 := Tryz.sizeOf63
  v25 := Tryz.zeroValue63
  t39 := Tryz.underlying99
  a39 := Tryz.isAgg99
  z39 := Tryz.sizeOf99
  v39 := Tryz.zeroValue99
  t45 := Tryz.underlying111
  a45 := Tryz.isAgg111
  z45 := Tryz.sizeOf111
  v45 := Tryz.zeroValue111
  t46 := Tryz.underlying112
  a46 := Tryz.isAgg112
  z46 := Tryz.sizeOf112
  v46 := Tryz.zeroValue112
  t50 := Tryz.underlying117
  a50 := Tryz.isAgg117
  z50 := Tryz.sizeOf117
  v50 := Tryz.zeroValue117
  t53 := Tryz.underlying120
  a53 := Tryz.isAgg120
  z53 := Tryz.sizeOf120
  v53 := Tryz.zeroValue120
  t55 := Tryz.underlying122
  a55 := Tryz.isAgg122
  z55 := Tryz.sizeOf122
  v55 := Tryz.zeroValue122
  t66 := Tryz.underlying141
  a66 := Tryz.isAgg141
  z66 := Tryz.sizeOf141
  v66 := Tryz.zeroValue141
  t70 := Tryz.underlying145
  a70 := Tryz.isAgg145
  z70 := Tryz.sizeOf145
  v70 := Tryz.zeroValue145
  t76 := Tryz.underlying155
  a76 := Tryz.isAgg155
  z76 := Tryz.sizeOf155
  v76 := Tryz.zeroValue155
  t77 := Tryz.underlying156
  a77 := Tryz.isAgg156
  z77 := Tryz.sizeOf156
  v77 := Tryz.zeroValue156 }
def Tryz.sfR_ren : Go.Shelf.Ren := ⟨fun | 6 => 55 | 15 => 70 | 14 => 73 | 28 => 91 | 29 => 92 | 20 => 93 | 21 => 94 | 22 => 95 | 23 => 96 | 24 => 97 | 25 => 98 | 26 => 99 | 27 => 100 | 46 => 121 | 47 => 117 | 48 => 118 | 49 => 122 | 50 => 123 | 57 => 132 | n => n, fun | 22 => 23 | 24 => 26 | 25 => 37 | 3 => 3 | 39 => 99 | 0 => 0 | 53 => 120 | 55 => 122 | 4 => 4 | 46 => 112 | 45 => 111 | 50 => 117 | 5 => 5 | 9 => 9 | 66 => 141 | 70 => 145 | 76 => 155 | 77 => 156 | n => n, fun | n => n⟩
theorem Tryz.sfR : Go.Proofs.SlLaysF.n6 Tryz.prog Tryz.sfR_ren := {
  mixed := by kernel_rfl
  f6 := ⟨Tryz.f55.name, by decide, Tryz.func55.trans (congrArg some (by kernel_rfl))⟩
  f14 := ⟨Tryz.f73.name, by decide, Tryz.func73.trans (congrArg some (by kernel_rfl))⟩
  f15 := Tryz.func70.trans (congrArg some (by kernel_rfl))
  f20 := ⟨Tryz.f93.name, by decide, Tryz.func93.trans (congrArg some (by kernel_rfl))⟩
  f21 := ⟨Tryz.f94.name, by decide, Tryz.func94.trans (congrArg some (by kernel_rfl))⟩
  f22 := ⟨Tryz.f95.name, by decide, Tryz.func95.trans (congrArg some (by kernel_rfl))⟩
  f23 := ⟨Tryz.f96.name, by decide, Tryz.func96.trans (congrArg some (by kernel_rfl))⟩
  f24 := ⟨Tryz.f97.name, by decide, Tryz.func97.trans (congrArg some (by kernel_rfl))⟩
  f25 := ⟨Tryz.f98.name, by decide, Tryz.func98.trans (congrArg some (by kernel_rfl))⟩
  f26 := ⟨Tryz.f99.name, by decide, Tryz.func99.trans (congrArg some (by kernel_rfl))⟩
  f27 := ⟨Tryz.f100.name, by decide, Tryz.func100.trans (congrArg some (by kernel_rfl))⟩
  f28 := Tryz.func91.trans (congrArg some (by kernel_rfl))
  f29 := Tryz.func92.trans (congrArg some (by kernel_rfl))
  f46 := ⟨Tryz.f121.name, by decide, Tryz.func121.trans (congrArg some (by kernel_rfl))⟩
  f47 := Tryz.func117.trans (congrArg some (by kernel_rfl))
  f48 := Tryz.func118.trans (congrArg some (by kernel_rfl))
  f49 := ⟨Tryz.f122.name, by decide, Tryz.func122.trans (congrArg some (by kernel_rfl))⟩
  f50 := ⟨Tryz.f123.name, by decide, Tryz.func123.trans (congrArg some (by kernel_rfl))⟩
  f57 := ⟨Tryz.f132.name, by decide, Tryz.func132.trans (congrArg some (by kernel_rfl))⟩
  t0 := Tryz.underlying0
  a0 := Tryz.isAgg0
  z0 := Tryz.sizeOf0
  v0 := Tryz.zeroValue0
  t3 := Tryz.underlying3
  a3 := Tryz.isAgg3
  z3 := Tryz.sizeOf3
  v3 := Tryz.zeroValue3
  t4 := Tryz.underlying4
  a4 := Tryz.isAgg4
  z4 := Tryz.sizeOf4
  v4 := Tryz.zeroValue4
  t5 := Tryz.underlying5
  a5 := Tryz.isAgg5
  z5 := Tryz.sizeOf5
  v5 := Tryz.zeroValue5
  t9 := Tryz.underlying9
  a9 := Tryz.isAgg9
  z9 := Tryz.sizeOf9
  v9 := Tryz.zeroValue9
  t22 := Tryz.underlying23
  a22 := Tryz.isAgg23
  z22 := Tryz.sizeOf23
  v22 := Tryz.zeroValue23
  a24 := Tryz.isAgg26
  z24 := Tryz.sizeOf26
  t25 := Tryz.underlying37
  a25 := Tryz.isAgg37
  z25 := Tryz.sizeOf37
  v25 := Tryz.zeroValue37
  t39 := Tryz.underlying99
  a39 := Tryz.isAgg99
  z39 := Tryz.sizeOf99
  v39 := Tryz.zeroValue99
  t45 := Tryz.underlying111
  a45 := Tryz.isAgg111
  z45 := Tryz.sizeOf111
  v45 := Tryz.zeroValue111
  t46 := Tryz.underlying112
  a46 := Tryz.isAgg112
  z46 := Tryz.sizeOf112
  v46 := Tryz.zeroValue112
  t50 := Tryz.underlying117
  a50 := Tryz.isAgg117
  z50 := Tryz.sizeOf117
  v50 := Tryz.zeroValue117
  t53 := Tryz.underlying120
  a53 := Tryz.isAgg120
  z53 := Tryz.sizeOf120
  v53 := Tryz.zeroValue120
  t55 := Tryz.underlying122
  a55 := Tryz.isAgg122
  z55 := Tryz.sizeOf122
  v55 := Tryz.zeroValue122
  t66 := Tryz.underlying141
  a66 := Tryz.isAgg141
  z66 := Tryz.sizeOf141
  v66 := Tryz.zeroValue141
  t70 := Tryz.underlying145
  a70 := Tryz.isAgg145
  z70 := Tryz.sizeOf145
  v70 := Tryz.zeroValue145
  t76 := Tryz.underlying155
  a76 := Tryz.isAgg155
  z76 := Tryz.sizeOf155
  v76 := Tryz.zeroValue155
  t77 := Tryz.underlying156
  a77 := Tryz.isAgg156
  z77 := Tryz.sizeOf156
  v77 := Tryz.zeroValue156 }
def Tryz.clR_ren : Go.Shelf.Ren := ⟨fun | 41 => 54 | n => n, fun | 22 => 23 | 23 => 26 | 4 => 4 | n => n, fun | n => n⟩
theorem Tryz.clR : Go.Proofs.SlLaysE0.n41 Tryz.prog Tryz.clR_ren := {
  mixed := by kernel_rfl
  f41 := ⟨Tryz.f54.name, by decide, Tryz.func54.trans (congrArg some (by kernel_rfl))⟩
  t4 := Tryz.underlying4
  a4 := Tryz.isAgg4
  z4 := Tryz.sizeOf4
  v4 := Tryz.zeroValue4
  t22 := Tryz.underlying23
  a22 := Tryz.isAgg23
  z22 := Tryz.sizeOf23
  v22 := Tryz.zeroValue23 }
def Tryz.clV_ren : Go.Shelf.Ren := ⟨fun | 41 => 47 | n => n, fun | 22 => 26 | 23 => 45 | 4 => 4 | n => n, fun | n => n⟩
theorem Tryz.clV : Go.Proofs.SlLaysE0.n41 Tryz.prog Tryz.clV_ren := {
  mixed := by kernel_rfl
  f41 := ⟨Tryz.f47.name, by decide, Tryz.func47.trans (congrArg some (by kernel_rfl))⟩
  t4 := Tryz.underlying4
  a4 := Tryz.isAgg4
  z4 := Tryz.sizeOf4
  v4 := Tryz.zeroValue4
  t22 := Tryz.underlying26
  a22 := Tryz.isAgg26
  z22 := Tryz.sizeOf26
  v22 := Tryz.zeroValue26 }
end Go.Proofs

namespace Go.Proofs.YtiliaincniiijaaGreat
open Go.RowKit Go.Shelf Go.Sort
set_option linter.unusedVariables false

def bcmp (a b : ByteArray) : Int := Lib.compareBytes a.data.toList b.data.toList
theorem less_cb : ∀ a b : List UInt8, Op.bytesLess a b = decide (Lib.compareBytes a b < 0)
  | _, [] => by cases ‹List UInt8› <;> simp [Op.bytesLess, Lib.compareBytes]
  | [], _ :: _ => by simp [Op.bytesLess, Lib.compareBytes]
  | a :: x, b :: y => by
    have ih := less_cb x y
    unfold Op.bytesLess Lib.compareBytes
    by_cases h : a < b
    · simp [h]
    · by_cases h2 : b < a
      · have hne : a ≠ b := fun e => by subst e; exact h h2
        simp [h, h2, hne]
      · have he : a = b := UInt8.le_antisymm (UInt8.not_lt.1 h2) (UInt8.not_lt.1 h)
        simp [he, ih]
theorem less_bcmp (a b : ByteArray) : Op.bytesLess a.toList b.toList = decide (bcmp a b < 0) := by
  rw [less_cb]
  unfold bcmp
  rw [toList_data, toList_data]

set_option maxRecDepth 100000 in
set_option maxHeartbeats 2000000 in
theorem ris1_any (V : Value) (vs : List ByteArray) (B i j : Nat) (w : World) (hB : B < w.heap.size) (hbox : w.cell? ⟨B, 0, none⟩ = some V) (hV : StrsAt w V vs) (hi : i < vs.length) (hj : j < vs.length) (lv : vs.length ≤ 9223372036854775807) :
    Calls Tryz.prog 62 #[.int .i64 i, .int .i64 j, .pointer (some ⟨B, 0, none⟩)] w fun e w' => e = .returned (.int .i64 (bcmp vs[i] vs[j])) ∧ Below w.heap.size w w' := by
  obtain ⟨p, c, rfl⟩ := hV.form
  obtain ⟨b, off, rfl, hb, q1⟩ := hV.get.2 i hi
  obtain ⟨b', off', e, hb', q2⟩ := hV.get.2 j hj
  injection e with e
  injection e with e1 e2
  subst e1 e2
  have ct : Hid (∀ W, Calls Tryz.prog 63 #[.string vs[i], .string vs[j]] W fun e w' => e = .returned (.int .i64 (bcmp vs[i] vs[j])) ∧ w' = W) := fun W => Tryz.strings_Compare vs[i] vs[j] W
  obtain ⟨n, en⟩ : ∃ n : Nat, Hid (vs.length = n) := ⟨_, rfl⟩
  have hi' : i < n := by have := en.out; omega
  have hj' : j < n := by have := en.out; omega
  rw [en.out] at hbox lv
  clear hV
  generalize bcmp vs[i] vs[j] = E at ct
  generalize vs[i] = X at q1 ct
  generalize vs[j] = Y at q2 ct
  go_enter Tryz.func62, Tryz.ntmps62
  go_upto_region 1 with fail
  go_region_held3 (fun w' => w'.cell? ⟨B, 0, none⟩ = some (.slice (some ⟨b, off, none⟩) n c) ∧ w'.cell? ⟨b, off + i, none⟩ = some (.string X) ∧ w'.cell? ⟨b, off + j, none⟩ = some (.string Y))
    (exact ⟨bcl (n := w.heap.size) (by go_grown) hbox hB, bcl (n := w.heap.size) (by go_grown) q1 hb, bcl (n := w.heap.size) (by go_grown) q2 hb⟩)
    (first
      | (go_at_call 63; refine (ct.out _).mono ?_; rintro e v1 ⟨rfl, rfl⟩))
  go_wp2
  go_ret
  exact ⟨rfl, by go_grown⟩

theorem bcmp_turn (a b : ByteArray) : bcmp b a = -bcmp a b := cb_turn _ _
theorem bcmp_zero {a b : ByteArray} (h : bcmp a b = 0) : a = b := ByteArray.ext (Array.toList_inj.mp ((cb_zero _ _).1 h))
theorem bcmp_on (a b c : ByteArray) (h1 : bcmp a b ≤ 0) (h2 : bcmp b c ≤ 0) : bcmp a c ≤ 0 ∧ ((bcmp a b = 0 ∧ bcmp b c = 0) ↔ bcmp a c = 0) := cb_on _ _ _ h1 h2
theorem swo_bcmp {α : Type} (f : α → ByteArray) : SWO (ltOf fun x y => bcmp (f x) (f y)) where
  irrefl x := by
    have h : bcmp (f x) (f x) = 0 := (cb_zero _ _).2 rfl
    simp [ltOf, h]
  trans x y z h1 h2 := by
    simp only [ltOf, decide_eq_true_eq] at *
    have h := bcmp_on (f x) (f y) (f z) (by omega) (by omega)
    have h3 := h.1
    have h4 := h.2
    by_cases h5 : bcmp (f x) (f z) = 0
    · have := (h4.2 h5).1; omega
    · omega
  ntrans x y z h1 h2 := by
    simp only [ltOf, decide_eq_false_iff_not] at *
    have t1 := bcmp_turn (f x) (f y)
    have t2 := bcmp_turn (f y) (f z)
    have t3 := bcmp_turn (f x) (f z)
    have h := bcmp_on (f z) (f y) (f x) (by omega) (by omega)
    omega
theorem riseB_of : ∀ l : List ByteArray, l.Pairwise (fun a b => bcmp a b < 0) → riseB l = true
  | [], _ => rfl
  | [_], _ => rfl
  | x :: y :: l, h => by
    rw [List.pairwise_cons] at h
    show (Op.bytesLess x.toList y.toList && riseB (y :: l)) = true
    rw [riseB_of (y :: l) h.2, less_bcmp]
    simp [h.1 y (List.mem_cons_self ..)]
theorem outs_nil : ∀ (vs : List ByteArray) (k : Nat), outs [] k vs = List.range' k vs.length
  | [], k => rfl
  | x :: l, k => by
    have h : Lib.containsS [] x = false := rfl
    simp only [outs, h, List.length_cons, List.range'_succ]
    rw [if_neg (by simp), outs_nil l (k + 1)]
theorem picks_fin {α : Type} (vs : List α) (ys : List (Fin vs.length)) : picks vs (ys.map Fin.val) = ys.map fun x => vs[x] := by
  induction ys with
  | nil => rfl
  | cons y ys ih => rw [List.map_cons, picks_cons y.2, ih]; rfl

theorem own_base {w : World} {B B' e size n : Nat} {v : Value} {xs : List Value} (h : w.ownsRow B e size v n xs) (hB : B' ≤ B) : w.ownsRow B' e size v n xs := by
  obtain ⟨hl, h | ⟨g, cap, cur, h0, h1, h2⟩⟩ := h
  · exact ⟨hl, Or.inl h⟩
  · exact ⟨hl, Or.inr ⟨g, cap, cur, h0, Nat.le_trans hB h1, h2⟩⟩
theorem fin_vals (n : Nat) : (List.finRange n).map Fin.val = List.range n := by
  apply List.ext_getElem
  · simp
  · intro i h1 h2; simp

theorem rising_sort (V v : Value) (vs : List ByteArray) (w w2 : World) (hV : StrsAt w V vs) (lv : vs.length ≤ 1000000) (hn : vs.Nodup) (ho : OwnI (w.heap.size + 1) v (List.range vs.length) w2) (hb : Below (w.heap.size + 1) (w.alloc (.cells #[V] 22)) w2) :
    Calls Tryz.prog 61 #[v, .func (.func 62) #[] #[.pointer (some ⟨w.heap.size, 0, none⟩)]] w2 fun e w3 => e = .returned (.tuple #[]) ∧ ∃ cs : List Nat, OwnI w.heap.size v cs w3 ∧ cs.Perm (List.range vs.length) ∧ riseB (picks vs cs) = true ∧ Below w.heap.size w w3 := by
  have hB1 : Below w.heap.size w (w.alloc (.cells #[V] 22)) := by go_grown
  have bx : (w.alloc (.cells #[V] 22)).cell? ⟨w.heap.size, 0, none⟩ = some V := by simp (maxDischargeDepth := 8) [go_sem]
  have hB2 : Below w.heap.size w w2 := hB1.trans (hb.mono (by omega))
  by_cases h0 : vs.length = 0
  · have e0 : vs = [] := List.length_eq_zero_iff.1 h0
    subst e0
    have ho' : OwnI w.heap.size v [] w2 := own_base ho (by omega)
    have hf : ∃ p cap, v = .slice p 0 cap := by
      obtain ⟨-, ⟨e, -⟩ | ⟨g, cap, cur, e, -⟩⟩ := ho
      · exact ⟨_, _, e⟩
      · exact ⟨_, _, e⟩
    obtain ⟨p, cap, rfl⟩ := hf
    refine (AnyF.slices_SortFunc_none { Tryz.sfI with } p cap _ w2).mono ?_
    rintro e w3 ⟨rfl, rfl⟩
    exact ⟨rfl, [], ho', List.Perm.refl _, rfl, hB2⟩
  · haveI : Inhabited (Fin vs.length) := ⟨⟨0, by omega⟩⟩
    have hz : (List.finRange vs.length).map (fun x : Fin vs.length => encN x.val) = (List.range vs.length).map encN := by
      rw [← fin_vals, List.map_map]; rfl
    have hl : (List.finRange vs.length).length = vs.length := by simp
    have hl2 : (List.range vs.length).length = vs.length := by simp
    have ho2 : w2.ownsRow (w.heap.size + 1) 3 1 v (List.finRange vs.length).length ((List.finRange vs.length).map fun x : Fin vs.length => encN x.val) := by
      rw [hz, hl]
      have h := ho
      unfold OwnI at h
      rwa [hl2] at h
    have hv : v ≠ .slice none 0 0 := by
      rintro rfl
      obtain ⟨-, ⟨-, e⟩ | ⟨g, cap, cur, e, -⟩⟩ := ho
      · rw [hl2] at e; exact h0 e
      · cases e
    have hc := sort_gen Tryz.sfI (fun x : Fin vs.length => encN x.val) (fun _ => rfl) (fun x y => bcmp vs[x] vs[y]) (swo_bcmp fun x : Fin vs.length => vs[x]) 62 #[.pointer (some ⟨w.heap.size, 0, none⟩)] (List.finRange vs.length) v (w.heap.size + 1) 3 w2 (enters_of Tryz.func62 (by kernel_rfl) rfl) ho2 hv (by rw [hl]; omega) (fun blk hblk W hW x y => by
      have hge : w.heap.size + 1 ≤ blk := (World.ownsRow.lt ho blk hblk).1
      have hBW : Below w.heap.size w W := hB2.grown hW hB2.size (fun q hq => by injection hq with hq; omega)
      have hbox : W.cell? ⟨w.heap.size, 0, none⟩ = some V := hW.cell ((hb.cell (p := ⟨w.heap.size, 0, none⟩) (by simp)).trans bx) (by simp; omega)
      have hlt : w.heap.size < W.heap.size := by
        have h1 := hb.size
        have h2 := hW.size
        simp at h1
        omega
      exact ris1_any V vs w.heap.size x y W hlt hbox (hV.below hBW) x.2 y.2 (by omega))
    refine hc.mono ?_
    rintro e w3 ⟨rfl, ys, hp, hs, ho3, blk, hblk, hg⟩
    have hge : w.heap.size + 1 ≤ blk := (World.ownsRow.lt ho blk hblk).1
    have hys : ys.Nodup := hp.nodup_iff.2 (List.nodup_finRange _)
    have hlen : ys.length = vs.length := by rw [hp.length_eq, hl]
    refine ⟨rfl, ys.map Fin.val, ?_, ?_, ?_, hB2.grown hg hB2.size (fun q hq => by injection hq with hq; omega)⟩
    · show w3.ownsRow _ _ _ _ _ _
      rw [List.length_map, hlen, List.map_map]
      rw [hl] at ho3
      exact own_base ho3 (by omega)
    · rw [← fin_vals]
      exact hp.map _
    · rw [picks_fin]
      apply riseB_of
      rw [List.pairwise_map]
      refine (hs.and hys).imp ?_
      rintro a b ⟨h1, h2⟩
      have t := bcmp_turn vs[a] vs[b]
      have h3 : bcmp vs[a] vs[b] ≠ 0 := fun h => h2 (Fin.ext ((List.getElem?_inj a.2 hn).1 (by
        have h4 := bcmp_zero h
        rw [List.getElem?_eq_getElem a.2, List.getElem?_eq_getElem b.2]
        exact congrArg some h4)))
      omega

end Go.Proofs.YtiliaincniiijaaGreat

namespace Go.Proofs.YtiliaincniiijaaGreat
open Go.RowKit Go.Shelf Go.Sort
set_option linter.unusedVariables false
set_option maxRecDepth 100000 in
set_option maxHeartbeats 2000000 in
theorem rising_any (V : Value) (vs : List ByteArray) (w : World) (hV : StrsAt w V vs) (lv : vs.length ≤ 1000000) (hn : vs.Nodup) :
    Calls Tryz.prog 33 #[V] w fun e w' => ∃ v cs, e = .returned v ∧ OwnI w.heap.size v cs w' ∧ cs.Perm (List.range vs.length) ∧ riseB (picks vs cs) = true ∧ Below w.heap.size w w' := by
  have hB1 : Below w.heap.size w (w.alloc (.cells #[V] 22)) := by go_grown
  have CT1 : Hid (Calls Tryz.prog 30 #[V, .slice none 0 0] (w.alloc (.cells #[V] 22)) fun e w' => ∃ v, e = .returned v ∧ OwnI (w.heap.size + 1) v (List.range vs.length) w' ∧ Below (w.heap.size + 1) (w.alloc (.cells #[V] 22)) w') := by
    have h := cout_any V (.slice none 0 0) vs [] (w.alloc (.cells #[V] 22)) (hV.below hB1) ⟨none, 0, rfl, Or.inl rfl⟩ lv (by simp)
    rw [outs_nil, ← List.range_eq_range', show (w.alloc (.cells #[V] 22)).heap.size = w.heap.size + 1 by simp] at h
    exact h
  have CT2 : Hid (∀ v w2, OwnI (w.heap.size + 1) v (List.range vs.length) w2 → Below (w.heap.size + 1) (w.alloc (.cells #[V] 22)) w2 → Calls Tryz.prog 61 #[v, .func (.func 62) #[] #[.pointer (some ⟨w.heap.size, 0, none⟩)]] w2 fun e w3 => e = .returned (.tuple #[]) ∧ ∃ cs : List Nat, OwnI w.heap.size v cs w3 ∧ cs.Perm (List.range vs.length) ∧ riseB (picks vs cs) = true ∧ Below w.heap.size w w3) := fun v w2 h1 h2 => rising_sort V v vs w w2 hV lv hn h1 h2
  obtain ⟨p, c, rfl⟩ := hV.form
  clear hB1 hV hn lv
  obtain ⟨n, en⟩ : ∃ n : Nat, Hid (vs.length = n) := ⟨_, rfl⟩
  rw [en.out] at CT1 CT2 ⊢
  go_enter Tryz.func33, Tryz.ntmps33
  go_wp2_with fail
  refine CT1.out.mono ?_
  rintro e w2 ⟨v, rfl, h1, h2⟩
  have ct2 := CT2.out v w2 h1 h2
  clear CT1 CT2 h1 h2
  have CT : Hid (Calls Tryz.prog 61 #[v, .func (.func 62) #[] #[.pointer (some ⟨w.heap.size, 0, none⟩)]] w2 fun e w3 => e = .returned (.tuple #[]) ∧ ∃ cs : List Nat, OwnI w.heap.size v cs w3 ∧ cs.Perm (List.range n) ∧ riseB (picks vs cs) = true ∧ Below w.heap.size w w3) := ct2
  clear ct2
  go_wp2_with fail
  refine CT.out.mono ?_
  rintro e w3 ⟨rfl, cs, h1, h2, h3, h4⟩
  have H : Hid (OwnI w.heap.size v cs w3 ∧ cs.Perm (List.range n) ∧ riseB (picks vs cs) = true ∧ Below w.heap.size w w3) := ⟨h1, h2, h3, h4⟩
  clear CT h1 h2 h3 h4
  go_wp2
  go_ret
  exact ⟨v, cs, rfl, H.out⟩

end Go.Proofs.YtiliaincniiijaaGreat
