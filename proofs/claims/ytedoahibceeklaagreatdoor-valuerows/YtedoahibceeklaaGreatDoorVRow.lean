/- CompareRow of any two rows of values. -/
import Derived.Test.YtedoahibceeklaaGreatDoorVOrd
namespace Go.Proofs.YtedoahibceeklaaGreatDoor
open Go.RowKit Go.Shelf
set_option linter.unusedVariables false

/-- How two rows stand to one another. -/
def rowC : List Val → List Val → Int
  | [], [] => 0
  | [], _ :: _ => -1
  | _ :: _, [] => 1
  | x :: xs, y :: ys => if x.cmp y = 0 then rowC xs ys else x.cmp y

theorem rowC_zero {x y : Val} {xs ys : List Val} (h : x.cmp y = 0) : rowC (x :: xs) (y :: ys) = rowC xs ys := by simp [rowC, h]
theorem rowC_else {x y : Val} {xs ys : List Val} (h : x.cmp y ≠ 0) : rowC (x :: xs) (y :: ys) = x.cmp y := by simp [rowC, h]
theorem rowC_end (xs ys : List Val) (h : xs = [] ∨ ys = []) : rowC xs ys = Lib.compareInt xs.length ys.length := by
  cases xs with
  | nil =>
    cases ys with
    | nil => simp [rowC, Lib.compareInt]
    | cons y ys => simp [rowC, Lib.compareInt] <;> omega
  | cons x xs =>
    cases ys with
    | nil => simp [rowC, Lib.compareInt] <;> omega
    | cons y ys => simp at h

theorem ci_shift (a b c d : Int) (h : a - b = c - d) : Lib.compareInt a b = Lib.compareInt c d := by
  rcases ci_cases a b with g | g | g <;> rcases ci_cases c d with g' | g' | g' <;> omega
theorem rowC_end' (xs ys : List Val) (k : Nat) (h1 : k ≤ xs.length) (h2 : k ≤ ys.length) (h3 : k = xs.length ∨ k = ys.length) : rowC (xs.drop k) (ys.drop k) = Lib.compareInt xs.length ys.length := by
  rw [rowC_end _ _ (by rcases h3 with h | h <;> simp [h])]
  apply ci_shift
  simp
  omega

/-- A row's values lie at a place. -/
def Lies (w : World) (b off : Nat) (xs : List Val) : Prop :=
  ∀ i (h : i < xs.length), w.cell? ⟨b, off + i * 4, none⟩ = some (.int .i64 xs[i].k) ∧ w.cell? ⟨b, off + i * 4 + 1, none⟩ = some (.int .i64 xs[i].n) ∧ w.cell? ⟨b, off + i * 4 + 2, none⟩ = some (.int .i64 xs[i].d) ∧ w.cell? ⟨b, off + i * 4 + 3, none⟩ = some (.string xs[i].s)
theorem Lies.below {w w' : World} {b off : Nat} {xs : List Val} (h : Lies w b off xs) {B : Nat} (hb : Below B w w') (hlt : b < B) : Lies w' b off xs := fun i hi => by
  obtain ⟨c0, c1, c2, c3⟩ := h i hi
  exact ⟨(hb.cell (p := ⟨b, _, none⟩) hlt).trans c0, (hb.cell (p := ⟨b, _, none⟩) hlt).trans c1, (hb.cell (p := ⟨b, _, none⟩) hlt).trans c2, (hb.cell (p := ⟨b, _, none⟩) hlt).trans c3⟩

theorem drop_at {xs : List Val} {k : Nat} (h : k < xs.length) : xs.drop k = xs[k] :: xs.drop (k + 1) := List.drop_eq_getElem_cons h

set_option maxRecDepth 100000 in
set_option maxHeartbeats 2000000 in
theorem row_core (b off c b' off' c' : Nat) (xs ys : List Val) (w : World) (fx : ∀ v ∈ xs, v.Fits) (fy : ∀ v ∈ ys, v.Fits) (hb : b < w.heap.size) (hb' : b' < w.heap.size)
    (hx : Lies w b off xs) (hy : Lies w b' off' ys) (lx : xs.length ≤ 9223372036854775807) (ly : ys.length ≤ 9223372036854775807) :
    Calls Tryz.prog 19 #[.slice (some ⟨b, off, none⟩) xs.length c, .slice (some ⟨b', off', none⟩) ys.length c'] w fun e w' => e = .returned (.int .i64 (rowC xs ys)) ∧ Below w.heap.size w w' := by
  obtain ⟨n, en⟩ : ∃ n : Nat, Hid (xs.length = n) := ⟨_, rfl⟩
  obtain ⟨m, em⟩ : ∃ m : Nat, Hid (ys.length = m) := ⟨_, rfl⟩
  rw [en.out] at lx ⊢
  rw [em.out] at ly ⊢
  obtain ⟨u, eu⟩ : ∃ u : Nat, Hid (min n m = u) := ⟨_, rfl⟩
  have HX : Hid (Lies w b off xs) := hx
  have HY : Hid (Lies w b' off' ys) := hy
  clear hx hy
  go_enter Tryz.func19, Tryz.ntmps19
  go_wp2
  have eu' : min (n : Int) (m : Int) = (u : Int) := by have := eu.out; omega
  rw [eu']
  clear eu'
  go_loopw [12] (fun i wr => ∃ k : Nat, k ≤ u ∧ i = .int .i64 k ∧ Hid (rowC xs ys = rowC (xs.drop k) (ys.drop k)) ∧ Below w.heap.size w wr) (fun i _ => u - (intOf i).toNat)
  case atStart => exact ⟨0, Nat.zero_le _, rfl, (show rowC xs ys = rowC (xs.drop 0) (ys.drop 0) by simp), Below.refl _ _⟩
  case round =>
    obtain ⟨k, hk, rfl, hr, hB⟩ := hrel
    by_cases hlt : k < u
    · have kx : k < xs.length := by have := eu.out; have := en.out; omega
      have ky : k < ys.length := by have := eu.out; have := em.out; omega
      have kn : k < n := by have := en.out; omega
      have km : k < m := by have := em.out; omega
      have q1 := (HX.out.below hB hb) k kx
      have q2 := (HY.out.below hB hb') k ky
      have f1 := fx xs[k] (List.getElem_mem kx)
      have f2 := fy ys[k] (List.getElem_mem ky)
      have dx := drop_at kx
      have dy := drop_at ky
      generalize xs[k] = X at q1 f1 dx
      generalize ys[k] = Y at q2 f2 dy
      have hr2 : Hid (rowC xs ys = if X.cmp Y = 0 then rowC (xs.drop (k + 1)) (ys.drop (k + 1)) else X.cmp Y) := by
        have := hr.out
        rw [dx, dy] at this
        exact this
      clear dx dy hr
      obtain ⟨a0, a1, a2, a3⟩ := q1
      obtain ⟨b0, b1, b2, b3⟩ := q2
      have hbr : b < wr.heap.size := Nat.lt_of_lt_of_le hb hB.size
      have hbr' : b' < wr.heap.size := Nat.lt_of_lt_of_le hb' hB.size
      obtain ⟨C, eC⟩ : ∃ C : Int, Hid (X.cmp Y = C) := ⟨_, rfl⟩
      have ct : Hid (∀ W : World, Calls Tryz.prog 17 #[.agg #[.int .i64 X.k, .int .i64 X.n, .int .i64 X.d, .string X.s], .agg #[.int .i64 Y.k, .int .i64 Y.n, .int .i64 Y.d, .string Y.s]] W fun e w' => e = .returned (.int .i64 C) ∧ Below W.heap.size W w') := fun W => by
        have h := vcompare_any X.k X.n X.d X.s Y.k Y.n Y.d Y.s W f1.n1 f1.n2 f1.d1 f1.d2 f2.n1 f2.n2 f2.d1 f2.d2
        rw [show vcmp X.k X.n X.d X.s Y.k Y.n Y.d Y.s = C from eC.out] at h
        exact h
      rw [eC.out] at hr2
      clear f1 f2
      go_upto_region 4 with fail
      go_region_held3 (fun w' => w'.cell? ⟨b, off + k * 4, none⟩ = some (.int .i64 X.k) ∧ w'.cell? ⟨b, off + k * 4 + 1, none⟩ = some (.int .i64 X.n) ∧ w'.cell? ⟨b, off + k * 4 + 2, none⟩ = some (.int .i64 X.d) ∧ w'.cell? ⟨b, off + k * 4 + 3, none⟩ = some (.string X.s) ∧ w'.cell? ⟨b', off' + k * 4, none⟩ = some (.int .i64 Y.k) ∧ w'.cell? ⟨b', off' + k * 4 + 1, none⟩ = some (.int .i64 Y.n) ∧ w'.cell? ⟨b', off' + k * 4 + 2, none⟩ = some (.int .i64 Y.d) ∧ w'.cell? ⟨b', off' + k * 4 + 3, none⟩ = some (.string Y.s))
        (exact ⟨bcl (n := wr.heap.size) (by go_grown) a0 hbr, bcl (n := wr.heap.size) (by go_grown) a1 hbr, bcl (n := wr.heap.size) (by go_grown) a2 hbr, bcl (n := wr.heap.size) (by go_grown) a3 hbr, bcl (n := wr.heap.size) (by go_grown) b0 hbr', bcl (n := wr.heap.size) (by go_grown) b1 hbr', bcl (n := wr.heap.size) (by go_grown) b2 hbr', bcl (n := wr.heap.size) (by go_grown) b3 hbr'⟩)
        (first
          | (go_at_call 17; refine (ct.out _).mono ?_; rintro e v1 ⟨rfl, hv1⟩; obtain ⟨hw1, hn1⟩ := bg0 (n := wr.heap.size) (W0 := wr) (by go_grown) (by go_size) hv1; clear hv1))
      clear a0 a1 a2 a3 b0 b1 b2 b3
      have hB2 : Below w.heap.size w v1 := hB.trans (hw1.mono hB.size)
      clear hw1 hB
      by_cases hC : C = 0
      · have hr3 : Hid (rowC xs ys = rowC (xs.drop (k + 1)) (ys.drop (k + 1))) := by have := hr2.out; rw [if_pos hC] at this; exact this
        clear hr2 eC ct
        subst hC
        go_wp2
        exact ⟨⟨k + 1, by omega, by go_num, hr3, hB2⟩, by simp [intOf]; omega⟩
      · have hC' : (C != 0) = true := by simpa using hC
        go_wp2
        go_ret
        exact ⟨ret_int (by have := hr2.out; rw [if_neg hC] at this; exact this.symm), hB2⟩
    · have ek : k = u := by omega
      have hz : Hid (rowC xs ys = Lib.compareInt n m) := by
        have h1 := hr.out
        have h2 := rowC_end' xs ys k (by have := eu.out; have := en.out; have := em.out; omega) (by have := eu.out; have := en.out; have := em.out; omega) (by have := eu.out; have := en.out; have := em.out; omega)
        rw [en.out, em.out] at h2
        exact h1.trans h2
      clear hr
      go_wp2_with fail
      refine (Tryz.cmp_Compare_int n m _).mono ?_
      rintro e w3 ⟨rfl, rfl⟩
      go_wp2
      go_ret
      exact ⟨ret_int hz.out.symm, hB⟩

set_option maxRecDepth 100000 in
set_option maxHeartbeats 2000000 in
theorem row_left (p q : Option Addr) (c m c' : Nat) (w : World) (hm : m ≤ 9223372036854775807) :
    Calls Tryz.prog 19 #[.slice p 0 c, .slice q m c'] w fun e w' => e = .returned (.int .i64 (Lib.compareInt 0 m)) ∧ w' = w := by
  have e1 : min (0 : Int) (m : Int) = 0 := by omega
  go_enter Tryz.func19, Tryz.ntmps19
  go_wp2
  refine wp_loop_rounds 1 ?_
  rw [rounds_succ]
  go_wp2_with fail
  refine (Tryz.cmp_Compare_int 0 m _).mono ?_
  rintro e w3 ⟨rfl, rfl⟩
  go_wp2
  go_ret
  exact ⟨rfl, rfl⟩

set_option maxRecDepth 100000 in
set_option maxHeartbeats 2000000 in
theorem row_right (p q : Option Addr) (c m c' : Nat) (w : World) (hm : m ≤ 9223372036854775807) :
    Calls Tryz.prog 19 #[.slice p m c, .slice q 0 c'] w fun e w' => e = .returned (.int .i64 (Lib.compareInt m 0)) ∧ w' = w := by
  have e1 : min (m : Int) (0 : Int) = 0 := by omega
  go_enter Tryz.func19, Tryz.ntmps19
  go_wp2
  refine wp_loop_rounds 1 ?_
  rw [rounds_succ]
  go_wp2_with fail
  refine (Tryz.cmp_Compare_int m 0 _).mono ?_
  rintro e w3 ⟨rfl, rfl⟩
  go_wp2
  go_ret
  exact ⟨rfl, rfl⟩

end Go.Proofs.YtedoahibceeklaaGreatDoor
