/- freeOf: what Exists leaves. -/
import Derived.Test.YticnfeolbfmgfaaGreatDoorZ03
import Derived.OwnWalk
import Derived.Laws.OwnMore
import Derived.Deep.RegionLaw
import Derived.Maps.AppendAt
import Derived.Lib.AppendZeros
import Derived.Test.YticnfeolbfmgfaaGreatDoorZ02
import Derived.Test.YticnfeolbfmgfaaGreatDoorZ01
import Derived.Shelf.SlGeneric
import Derived.Ground.Names8Prog
import Derived.Shelf.Spec.SlicesGrow
import Derived.Test.YticnfeolbfmgfaaGreatDoorProg
import Derived.Lib.OwnBridge
import Derived.Lib.RowBridge
import Derived.Deep.RegionWith

namespace Go.Proofs.YticnfeolbfmgfaaGreatDoor
open Go.RowKit LX Go.Shelf
set_option linter.unusedVariables false

def opB (op : Int) (used : Bool) : Bool := if used = true then decide (1 ≤ op ∧ op ≤ 6) else op == 0
set_option maxRecDepth 100000 in
theorem isop_any (op : Int) (b : Bool) (w : World) :
    Calls Tryz.prog 193 #[.int .i64 op, .bool b] w fun r w' => r = .returned (.bool (opB op b)) ∧ w' = w := by
  cases b with
  | false =>
    have e : opB op false = (op == 0) := rfl
    rw [e]
    go_enter Tryz.func193, Tryz.ntmps193
    go_wp2
    go_ret
    exact ⟨by first | rfl | simp, rfl⟩
  | true =>
    have e : opB op true = decide (1 ≤ op ∧ op ≤ 6) := rfl
    rw [e]
    by_cases h1 : 1 ≤ op
    · by_cases h2 : op ≤ 6
      · rw [decide_eq_true (show 1 ≤ op ∧ op ≤ 6 from ⟨h1, h2⟩)]
        go_enter Tryz.func193, Tryz.ntmps193
        go_wp2
        go_ret
        exact ⟨by first | rfl | simp, rfl⟩
      · rw [decide_eq_false (show ¬ (1 ≤ op ∧ op ≤ 6) from fun h => h2 h.2)]
        go_enter Tryz.func193, Tryz.ntmps193
        go_wp2
        go_ret
        exact ⟨by first | rfl | simp, rfl⟩
    · rw [decide_eq_false (show ¬ (1 ≤ op ∧ op ≤ 6) from fun h => h1 h.1)]
      go_enter Tryz.func193, Tryz.ntmps193
      go_wp2
      go_ret
      exact ⟨by first | rfl | simp, rfl⟩
/-- Is an interval one? -/
def itvU (lo hi : Int) (o : Bool) : Bool := if lo < 0 ∨ 1099511627776 < lo then false else if o = true then hi == 0 else decide (lo ≤ hi ∧ hi ≤ 1099511627776)
def itvZ (lo hi : Int) (o : Bool) : Bool := lo == 0 && (hi == 0 && o == false)
def itvB (lo hi : Int) (o : Bool) (used : Bool) : Bool := if used = true then itvU lo hi o else itvZ lo hi o
set_option maxRecDepth 100000 in
set_option maxHeartbeats 1000000 in
theorem isiv_any (lo hi : Int) (o b : Bool) (w : World) :
    Calls Tryz.prog 194 #[.agg #[.int .i64 lo, .int .i64 hi, .bool o], .bool b] w fun r w' => r = .returned (.bool (itvB lo hi o b)) ∧ Below w.heap.size w w' := by
  cases b with
  | false =>
    have e : itvB lo hi o false = (lo == 0 && (hi == 0 && o == false)) := rfl
    rw [e]
    by_cases h1 : lo = 0
    · subst h1
      by_cases h2 : hi = 0
      · subst h2
        cases o <;>
        · go_enter Tryz.func194, Tryz.ntmps194
          go_wp2
          go_ret
          exact ⟨by first | rfl | simp, by go_grown⟩
      · have h2' : (hi == 0) = false := by simp [h2]
        rw [h2']
        cases o <;>
        · go_enter Tryz.func194, Tryz.ntmps194
          go_wp2
          go_ret
          exact ⟨by first | rfl | simp, by go_grown⟩
    · have h1' : (lo == 0) = false := by simp [h1]
      rw [h1']
      cases o <;>
      · go_enter Tryz.func194, Tryz.ntmps194
        go_wp2
        go_ret
        exact ⟨by first | rfl | simp, by go_grown⟩
  | true =>
    have e : itvB lo hi o true = if lo < 0 ∨ 1099511627776 < lo then false else if o = true then hi == 0 else decide (lo ≤ hi ∧ hi ≤ 1099511627776) := rfl
    rw [e]
    by_cases h1 : lo < 0
    · rw [if_pos (Or.inl h1)]
      go_enter Tryz.func194, Tryz.ntmps194
      go_wp2
      go_ret
      exact ⟨by first | rfl | simp, by go_grown⟩
    by_cases h2 : 1099511627776 < lo
    · rw [if_pos (Or.inr h2)]
      go_enter Tryz.func194, Tryz.ntmps194
      go_wp2
      go_ret
      exact ⟨by first | rfl | simp, by go_grown⟩
    rw [if_neg (by omega)]
    cases o with
    | true =>
      rw [if_pos rfl]
      go_enter Tryz.func194, Tryz.ntmps194
      go_wp2
      go_ret
      exact ⟨by first | rfl | simp, by go_grown⟩
    | false =>
      rw [if_neg (by decide)]
      by_cases h3 : lo ≤ hi
      · by_cases h4 : hi ≤ 1099511627776
        · rw [decide_eq_true (show lo ≤ hi ∧ hi ≤ 1099511627776 from ⟨h3, h4⟩)]
          go_enter Tryz.func194, Tryz.ntmps194
          go_wp2
          go_ret
          exact ⟨by first | rfl | simp, by go_grown⟩
        · rw [decide_eq_false (show ¬ (lo ≤ hi ∧ hi ≤ 1099511627776) from fun h => h4 h.2)]
          go_enter Tryz.func194, Tryz.ntmps194
          go_wp2
          go_ret
          exact ⟨by first | rfl | simp, by go_grown⟩
      · rw [decide_eq_false (show ¬ (lo ≤ hi ∧ hi ≤ 1099511627776) from fun h => h3 h.1)]
        go_enter Tryz.func194, Tryz.ntmps194
        go_wp2
        go_ret
        exact ⟨by first | rfl | simp, by go_grown⟩
/-- Has it too many? -/
def manyB (k : Int) (nv nt : Nat) : Bool := if k = 3 then decide (6 < nt) else if k = 20 ∨ k = 21 then decide (6 < nv) else if k = 10 ∨ k = 19 then decide (8 < nv) else false
theorem dec_lt (a n : Nat) : decide ((a : Int) < (n : Int)) = decide (a < n) := by
  by_cases h : a < n
  · rw [decide_eq_true h, decide_eq_true (by omega)]
  · rw [decide_eq_false h, decide_eq_false (by omega)]
set_option maxRecDepth 100000 in
set_option maxHeartbeats 2000000 in
theorem toomany_any (k op lo hi : Int) (nm : ByteArray) (o : Bool) (pv pt ps pr : Option Addr) (nv cv nt ct ns cs nr cr : Nat) (w : World) :
    Calls Tryz.prog 160 #[.agg #[.int .i64 k, .string nm, .int .i64 op, .slice pv nv cv, .slice pt nt ct, .int .i64 lo, .int .i64 hi, .bool o, .slice ps ns cs, .slice pr nr cr]] w fun r w' => r = .returned (.bool (manyB k nv nt)) ∧ Below w.heap.size w w' := by
  have hv6 := dec_lt 6 nv
  have hv8 := dec_lt 8 nv
  have ht6 := dec_lt 6 nt
  obtain ⟨R, eR⟩ : ∃ R : Bool, Hid (manyB k nv nt = R) := ⟨_, rfl⟩
  rw [eR.out]
  have hR : Hid (R = if k = 3 then decide (6 < nt) else if k = 20 ∨ k = 21 then decide (6 < nv) else if k = 10 ∨ k = 19 then decide (8 < nv) else false) := eR.out.symm
  clear eR
  by_cases h3 : k = 3
  · have hR2 : Hid (R = decide (6 < nt)) := by have h := hR.out; rwa [if_pos h3] at h
    subst h3
    rw [hR2.out]
    go_enter Tryz.func160, Tryz.ntmps160
    go_wp2
    go_ret
    exact ⟨by first | rfl | (simp; done) | (simp; omega), by go_grown⟩
  by_cases h20 : k = 20 ∨ k = 21
  · have hR2 : Hid (R = decide (6 < nv)) := by have h := hR.out; rwa [if_neg h3, if_pos h20] at h
    rw [hR2.out]
    rcases h20 with rfl | rfl <;>
    · go_enter Tryz.func160, Tryz.ntmps160
      go_wp2
      go_ret
      exact ⟨by first | rfl | (simp; done) | (simp; omega), by go_grown⟩
  by_cases h10 : k = 10 ∨ k = 19
  · have hR2 : Hid (R = decide (8 < nv)) := by have h := hR.out; rwa [if_neg h3, if_neg h20, if_pos h10] at h
    rw [hR2.out]
    rcases h10 with rfl | rfl <;>
    · go_enter Tryz.func160, Tryz.ntmps160
      go_wp2
      go_ret
      exact ⟨by first | rfl | (simp; done) | (simp; omega), by go_grown⟩
  have hR2 : Hid (R = false) := by have h := hR.out; rwa [if_neg h3, if_neg h20, if_neg h10] at h
  rw [hR2.out]
  have k3 : (k == 3) = false := by simp; omega
  have k20 : (k == 20) = false := by simp; omega
  have k21 : (k == 21) = false := by simp; omega
  have k10 : (k == 10) = false := by simp; omega
  have k19 : (k == 19) = false := by simp; omega
  go_enter Tryz.func160, Tryz.ntmps160
  go_wp2
  go_ret
  exact ⟨by first | rfl | (simp; done) | (simp; omega), by go_grown⟩
/-- Why a regex may not be, whatever stands within. -/
def rxE (r : Rx) : Int := if r.k < 1 ∨ 5 < r.k then 20 else if r.test.length ≠ (if r.k = 2 then 1 else 0) ∨ r.subs.length ≠ (if r.k = 3 ∨ r.k = 4 then 2 else if r.k = 5 then 1 else 0) then 1 else 0

end Go.Proofs.YticnfeolbfmgfaaGreatDoor

namespace Go.Proofs.YticnfeolbfmgfaaGreatDoor
open Go.RowKit LX Go.Shelf
set_option linter.unusedVariables false

theorem NmsAt.form {w : World} {v : Value} {vs : List ByteArray} (h : NmsAt w v vs) : ∃ p c, v = .slice p vs.length c ∧ vs.length ≤ 9223372036854775807 ∧ vs.length ≤ c ∧ ∀ i (hi : i < vs.length), ∃ b off, p = some ⟨b, off, none⟩ ∧ b < w.heap.size ∧ w.cell? ⟨b, off + i, none⟩ = some (.string vs[i]) := by
  obtain ⟨hl, p, c, e, hc, h | ⟨b, off, h1, h2, h3⟩⟩ := h
  · exact ⟨p, c, e, hl, hc, fun i hi => by subst h; simp at hi⟩
  · exact ⟨p, c, e, hl, hc, fun i hi => ⟨b, off, h1, h2, h3 i hi⟩⟩
def namesB : List ByteArray → Bool
  | [] => true
  | x :: l => nameB x && namesB l

set_option maxRecDepth 100000 in
set_option maxHeartbeats 2000000 in
theorem anames_any (V : Value) (vs : List ByteArray) (w : World) (hV : NmsAt w V vs) :
    Calls Tryz.prog 191 #[V] w fun r w' => r = .returned (.bool (namesB vs)) ∧ w' = w := by
  have cN : Hid (∀ (X : ByteArray) (W : World), Calls Tryz.prog 119 #[.string X] W fun e w' => e = .returned (.bool (nameB X)) ∧ w' = W) := fun X W => name_any X W
  obtain ⟨p, c, rfl, hl, -, HX0⟩ := hV.form
  have HX : Hid (∀ i (hi : i < vs.length), ∃ b off, p = some ⟨b, off, none⟩ ∧ b < w.heap.size ∧ w.cell? ⟨b, off + i, none⟩ = some (.string vs[i])) := HX0
  clear hV HX0
  obtain ⟨R, eR⟩ : ∃ R : Bool, Hid (namesB vs = R) := ⟨_, rfl⟩
  obtain ⟨n, en⟩ : ∃ n : Nat, Hid (vs.length = n) := ⟨_, rfl⟩
  rw [eR.out, en.out]
  rw [en.out] at hl
  go_enter Tryz.func191, Tryz.ntmps191
  go_wp2
  go_loop [7] (fun i => ∃ k : Nat, k ≤ n ∧ i = .int .i64 k ∧ Hid (R = namesB (vs.drop k))) (fun i => n - (intOf i).toNat)
  case atStart => exact ⟨0, Nat.zero_le _, rfl, by rw [List.drop_zero]; exact eR.out.symm⟩
  case round =>
    obtain ⟨k, hk, rfl, hr⟩ := hrel
    by_cases hlt : k < n
    · have kx : k < vs.length := by have := en.out; omega
      obtain ⟨b, off, rfl, hb, r0⟩ := HX.out k kx
      have hlt' : (k : Int) < n := by omega
      have hr2 : Hid (R = (nameB vs[k] && namesB (vs.drop (k + 1)))) := by
        have h := hr.out
        rw [List.drop_eq_getElem_cons kx] at h
        exact h
      clear hr
      generalize vs[k] = X at r0 hr2
      have cN1 : Hid (∀ W : World, Calls Tryz.prog 119 #[.string X] W fun e w' => e = .returned (.bool (nameB X)) ∧ w' = W) := fun W => cN.out X W
      generalize nameB X = NB at cN1 hr2
      cases NB with
      | false =>
        have hr3 : Hid (R = false) := by have h := hr2.out; unfold Hid; simpa using h
        go_wp2_with fail
        refine (cN1.out _).mono ?_
        rintro e w2 ⟨rfl, rfl⟩
        clear cN1
        go_wp2
        go_ret
        rw [hr3.out]
        exact ⟨rfl, rfl⟩
      | true =>
        have hr3 : Hid (R = namesB (vs.drop (k + 1))) := by have h := hr2.out; unfold Hid; simpa using h
        go_wp2_with fail
        refine (cN1.out _).mono ?_
        rintro e w2 ⟨rfl, rfl⟩
        clear cN1
        go_wp2
        exact ⟨⟨k + 1, by omega, by go_num, hr3⟩, by simp [intOf]; omega⟩
    · have c2 : ¬ (k : Int) < n := by omega
      have hr3 : Hid (R = true) := by
        have h := hr.out
        rw [List.drop_eq_nil_of_le (by have := en.out; omega)] at h
        exact h
      go_wp2
      go_ret
      rw [hr3.out]
      exact ⟨rfl, rfl⟩

set_option maxRecDepth 100000 in
theorem takes_any (a b n : Int) (w : World) :
    Calls Tryz.prog 190 #[.agg #[.int .i64 a, .int .i64 b], .int .i64 n] w fun r w' => r = .returned (.bool (decide (a ≤ n ∧ n ≤ b))) ∧ Below w.heap.size w w' := by
  by_cases h1 : a ≤ n
  · by_cases h2 : n ≤ b
    · rw [decide_eq_true (show a ≤ n ∧ n ≤ b from ⟨h1, h2⟩)]
      go_enter Tryz.func190, Tryz.ntmps190
      go_wp2
      go_ret
      exact ⟨by first | rfl | simp, by go_grown⟩
    · rw [decide_eq_false (show ¬ (a ≤ n ∧ n ≤ b) from fun h => h2 h.2)]
      go_enter Tryz.func190, Tryz.ntmps190
      go_wp2
      go_ret
      exact ⟨by first | rfl | simp, by go_grown⟩
  · rw [decide_eq_false (show ¬ (a ≤ n ∧ n ≤ b) from fun h => h1 h.1)]
    go_enter Tryz.func190, Tryz.ntmps190
    go_wp2
    go_ret
    exact ⟨by first | rfl | simp, by go_grown⟩

/-- Which fields a kind of formulas uses, and how many there may be of each. -/
structure Frm where
  nm : Bool
  op : Bool
  iv : Bool
  vl : Int
  vm : Int
  tl : Int
  tm : Int
  sl : Int
  sm : Int
  rl : Int
  rm : Int
def Frm.val (f : Frm) : Value := .agg #[.bool f.nm, .bool f.op, .bool f.iv, .int .i64 f.vl, .int .i64 f.vm, .int .i64 f.tl, .int .i64 f.tm, .int .i64 f.sl, .int .i64 f.sm, .int .i64 f.rl, .int .i64 f.rm]
def frm (k : Int) : Frm := if k = 1 then ⟨false, false, false, 0, 0, 0, 0, 0, 0, 0, 0⟩ else if k = 2 then ⟨false, false, false, 0, 0, 0, 0, 0, 0, 0, 0⟩ else if k = 3 then ⟨true, false, false, 0, 0, 0, 6, 0, 0, 0, 0⟩ else if k = 4 then ⟨false, false, false, 0, 0, 2, 2, 0, 0, 0, 0⟩ else if k = 5 then ⟨false, false, false, 0, 0, 2, 2, 0, 0, 0, 0⟩ else if k = 6 then ⟨false, false, false, 0, 0, 2, 2, 0, 0, 0, 0⟩ else if k = 7 then ⟨false, false, false, 0, 0, 0, 0, 1, 1, 0, 0⟩ else if k = 8 then ⟨false, false, false, 0, 0, 0, 0, 2, 2, 0, 0⟩ else if k = 9 then ⟨false, false, false, 0, 0, 0, 0, 2, 2, 0, 0⟩ else if k = 10 then ⟨false, false, false, 1, 8, 0, 0, 1, 1, 0, 0⟩ else if k = 11 then ⟨false, false, true, 0, 0, 0, 0, 1, 1, 0, 0⟩ else if k = 12 then ⟨false, false, true, 0, 0, 0, 0, 1, 1, 0, 0⟩ else if k = 13 then ⟨false, false, true, 0, 0, 0, 0, 1, 1, 0, 0⟩ else if k = 14 then ⟨false, false, true, 0, 0, 0, 0, 1, 1, 0, 0⟩ else if k = 15 then ⟨false, false, true, 0, 0, 0, 0, 2, 2, 0, 0⟩ else if k = 16 then ⟨false, false, true, 0, 0, 0, 0, 2, 2, 0, 0⟩ else if k = 17 then ⟨false, false, true, 0, 0, 0, 0, 0, 0, 1, 1⟩ else if k = 18 then ⟨false, false, true, 0, 0, 0, 0, 0, 0, 1, 1⟩ else if k = 19 then ⟨true, true, false, 1, 8, 0, 0, 1, 1, 0, 0⟩ else if k = 20 then ⟨true, false, false, 0, 6, 0, 0, 2, 2, 0, 0⟩ else if k = 21 then ⟨true, false, false, 0, 6, 0, 0, 2, 2, 0, 0⟩ else ⟨false, false, false, 0, 0, 0, 0, 1, 9223372036854775807, 0, 0⟩

set_option maxRecDepth 100000 in
set_option maxHeartbeats 1000000 in
theorem formof_1 (w : World) : Calls Tryz.prog 189 #[.int .i64 1] w fun r w' => r = .returned (.agg #[.bool false, .bool false, .bool false, .int .i64 0, .int .i64 0, .int .i64 0, .int .i64 0, .int .i64 0, .int .i64 0, .int .i64 0, .int .i64 0]) ∧ Below w.heap.size w w' := by
  go_enter Tryz.func189, Tryz.ntmps189
  go_wp2
  refine bodyPost_ret (by simp [results, Tryz.results189, go_sem]; try rfl) rfl ?_
  exact ⟨rfl, by go_grown⟩

set_option maxRecDepth 100000 in
set_option maxHeartbeats 1000000 in
theorem formof_2 (w : World) : Calls Tryz.prog 189 #[.int .i64 2] w fun r w' => r = .returned (.agg #[.bool false, .bool false, .bool false, .int .i64 0, .int .i64 0, .int .i64 0, .int .i64 0, .int .i64 0, .int .i64 0, .int .i64 0, .int .i64 0]) ∧ Below w.heap.size w w' := by
  go_enter Tryz.func189, Tryz.ntmps189
  go_wp2
  refine bodyPost_ret (by simp [results, Tryz.results189, go_sem]; try rfl) rfl ?_
  exact ⟨rfl, by go_grown⟩

set_option maxRecDepth 100000 in
set_option maxHeartbeats 1000000 in
theorem formof_3 (w : World) : Calls Tryz.prog 189 #[.int .i64 3] w fun r w' => r = .returned (.agg #[.bool true, .bool false, .bool false, .int .i64 0, .int .i64 0, .int .i64 0, .int .i64 6, .int .i64 0, .int .i64 0, .int .i64 0, .int .i64 0]) ∧ Below w.heap.size w w' := by
  go_enter Tryz.func189, Tryz.ntmps189
  go_wp2
  refine bodyPost_ret (by simp [results, Tryz.results189, go_sem]; try rfl) rfl ?_
  exact ⟨rfl, by go_grown⟩

set_option maxRecDepth 100000 in
set_option maxHeartbeats 1000000 in
theorem formof_4 (w : World) : Calls Tryz.prog 189 #[.int .i64 4] w fun r w' => r = .returned (.agg #[.bool false, .bool false, .bool false, .int .i64 0, .int .i64 0, .int .i64 2, .int .i64 2, .int .i64 0, .int .i64 0, .int .i64 0, .int .i64 0]) ∧ Below w.heap.size w w' := by
  go_enter Tryz.func189, Tryz.ntmps189
  go_wp2
  refine bodyPost_ret (by simp [results, Tryz.results189, go_sem]; try rfl) rfl ?_
  exact ⟨rfl, by go_grown⟩

set_option maxRecDepth 100000 in
set_option maxHeartbeats 1000000 in
theorem formof_5 (w : World) : Calls Tryz.prog 189 #[.int .i64 5] w fun r w' => r = .returned (.agg #[.bool false, .bool false, .bool false, .int .i64 0, .int .i64 0, .int .i64 2, .int .i64 2, .int .i64 0, .int .i64 0, .int .i64 0, .int .i64 0]) ∧ Below w.heap.size w w' := by
  go_enter Tryz.func189, Tryz.ntmps189
  go_wp2
  refine bodyPost_ret (by simp [results, Tryz.results189, go_sem]; try rfl) rfl ?_
  exact ⟨rfl, by go_grown⟩

set_option maxRecDepth 100000 in
set_option maxHeartbeats 1000000 in
theorem formof_6 (w : World) : Calls Tryz.prog 189 #[.int .i64 6] w fun r w' => r = .returned (.agg #[.bool false, .bool false, .bool false, .int .i64 0, .int .i64 0, .int .i64 2, .int .i64 2, .int .i64 0, .int .i64 0, .int .i64 0, .int .i64 0]) ∧ Below w.heap.size w w' := by
  go_enter Tryz.func189, Tryz.ntmps189
  go_wp2
  refine bodyPost_ret (by simp [results, Tryz.results189, go_sem]; try rfl) rfl ?_
  exact ⟨rfl, by go_grown⟩

set_option maxRecDepth 100000 in
set_option maxHeartbeats 1000000 in
theorem formof_7 (w : World) : Calls Tryz.prog 189 #[.int .i64 7] w fun r w' => r = .returned (.agg #[.bool false, .bool false, .bool false, .int .i64 0, .int .i64 0, .int .i64 0, .int .i64 0, .int .i64 1, .int .i64 1, .int .i64 0, .int .i64 0]) ∧ Below w.heap.size w w' := by
  go_enter Tryz.func189, Tryz.ntmps189
  go_wp2
  refine bodyPost_ret (by simp [results, Tryz.results189, go_sem]; try rfl) rfl ?_
  exact ⟨rfl, by go_grown⟩

set_option maxRecDepth 100000 in
set_option maxHeartbeats 1000000 in
theorem formof_8 (w : World) : Calls Tryz.prog 189 #[.int .i64 8] w fun r w' => r = .returned (.agg #[.bool false, .bool false, .bool false, .int .i64 0, .int .i64 0, .int .i64 0, .int .i64 0, .int .i64 2, .int .i64 2, .int .i64 0, .int .i64 0]) ∧ Below w.heap.size w w' := by
  go_enter Tryz.func189, Tryz.ntmps189
  go_wp2
  refine bodyPost_ret (by simp [results, Tryz.results189, go_sem]; try rfl) rfl ?_
  exact ⟨rfl, by go_grown⟩

set_option maxRecDepth 100000 in
set_option maxHeartbeats 1000000 in
theorem formof_9 (w : World) : Calls Tryz.prog 189 #[.int .i64 9] w fun r w' => r = .returned (.agg #[.bool false, .bool false, .bool false, .int .i64 0, .int .i64 0, .int .i64 0, .int .i64 0, .int .i64 2, .int .i64 2, .int .i64 0, .int .i64 0]) ∧ Below w.heap.size w w' := by
  go_enter Tryz.func189, Tryz.ntmps189
  go_wp2
  refine bodyPost_ret (by simp [results, Tryz.results189, go_sem]; try rfl) rfl ?_
  exact ⟨rfl, by go_grown⟩

set_option maxRecDepth 100000 in
set_option maxHeartbeats 1000000 in
theorem formof_10 (w : World) : Calls Tryz.prog 189 #[.int .i64 10] w fun r w' => r = .returned (.agg #[.bool false, .bool false, .bool false, .int .i64 1, .int .i64 8, .int .i64 0, .int .i64 0, .int .i64 1, .int .i64 1, .int .i64 0, .int .i64 0]) ∧ Below w.heap.size w w' := by
  go_enter Tryz.func189, Tryz.ntmps189
  go_wp2
  refine bodyPost_ret (by simp [results, Tryz.results189, go_sem]; try rfl) rfl ?_
  exact ⟨rfl, by go_grown⟩

set_option maxRecDepth 100000 in
set_option maxHeartbeats 1000000 in
theorem formof_11 (w : World) : Calls Tryz.prog 189 #[.int .i64 11] w fun r w' => r = .returned (.agg #[.bool false, .bool false, .bool true, .int .i64 0, .int .i64 0, .int .i64 0, .int .i64 0, .int .i64 1, .int .i64 1, .int .i64 0, .int .i64 0]) ∧ Below w.heap.size w w' := by
  go_enter Tryz.func189, Tryz.ntmps189
  go_wp2
  refine bodyPost_ret (by simp [results, Tryz.results189, go_sem]; try rfl) rfl ?_
  exact ⟨rfl, by go_grown⟩

set_option maxRecDepth 100000 in
set_option maxHeartbeats 1000000 in
theorem formof_12 (w : World) : Calls Tryz.prog 189 #[.int .i64 12] w fun r w' => r = .returned (.agg #[.bool false, .bool false, .bool true, .int .i64 0, .int .i64 0, .int .i64 0, .int .i64 0, .int .i64 1, .int .i64 1, .int .i64 0, .int .i64 0]) ∧ Below w.heap.size w w' := by
  go_enter Tryz.func189, Tryz.ntmps189
  go_wp2
  refine bodyPost_ret (by simp [results, Tryz.results189, go_sem]; try rfl) rfl ?_
  exact ⟨rfl, by go_grown⟩

set_option maxRecDepth 100000 in
set_option maxHeartbeats 1000000 in
theorem formof_13 (w : World) : Calls Tryz.prog 189 #[.int .i64 13] w fun r w' => r = .returned (.agg #[.bool false, .bool false, .bool true, .int .i64 0, .int .i64 0, .int .i64 0, .int .i64 0, .int .i64 1, .int .i64 1, .int .i64 0, .int .i64 0]) ∧ Below w.heap.size w w' := by
  go_enter Tryz.func189, Tryz.ntmps189
  go_wp2
  refine bodyPost_ret (by simp [results, Tryz.results189, go_sem]; try rfl) rfl ?_
  exact ⟨rfl, by go_grown⟩

set_option maxRecDepth 100000 in
set_option maxHeartbeats 1000000 in
theorem formof_14 (w : World) : Calls Tryz.prog 189 #[.int .i64 14] w fun r w' => r = .returned (.agg #[.bool false, .bool false, .bool true, .int .i64 0, .int .i64 0, .int .i64 0, .int .i64 0, .int .i64 1, .int .i64 1, .int .i64 0, .int .i64 0]) ∧ Below w.heap.size w w' := by
  go_enter Tryz.func189, Tryz.ntmps189
  go_wp2
  refine bodyPost_ret (by simp [results, Tryz.results189, go_sem]; try rfl) rfl ?_
  exact ⟨rfl, by go_grown⟩

set_option maxRecDepth 100000 in
set_option maxHeartbeats 1000000 in
theorem formof_15 (w : World) : Calls Tryz.prog 189 #[.int .i64 15] w fun r w' => r = .returned (.agg #[.bool false, .bool false, .bool true, .int .i64 0, .int .i64 0, .int .i64 0, .int .i64 0, .int .i64 2, .int .i64 2, .int .i64 0, .int .i64 0]) ∧ Below w.heap.size w w' := by
  go_enter Tryz.func189, Tryz.ntmps189
  go_wp2
  refine bodyPost_ret (by simp [results, Tryz.results189, go_sem]; try rfl) rfl ?_
  exact ⟨rfl, by go_grown⟩

set_option maxRecDepth 100000 in
set_option maxHeartbeats 1000000 in
theorem formof_16 (w : World) : Calls Tryz.prog 189 #[.int .i64 16] w fun r w' => r = .returned (.agg #[.bool false, .bool false, .bool true, .int .i64 0, .int .i64 0, .int .i64 0, .int .i64 0, .int .i64 2, .int .i64 2, .int .i64 0, .int .i64 0]) ∧ Below w.heap.size w w' := by
  go_enter Tryz.func189, Tryz.ntmps189
  go_wp2
  refine bodyPost_ret (by simp [results, Tryz.results189, go_sem]; try rfl) rfl ?_
  exact ⟨rfl, by go_grown⟩

set_option maxRecDepth 100000 in
set_option maxHeartbeats 1000000 in
theorem formof_17 (w : World) : Calls Tryz.prog 189 #[.int .i64 17] w fun r w' => r = .returned (.agg #[.bool false, .bool false, .bool true, .int .i64 0, .int .i64 0, .int .i64 0, .int .i64 0, .int .i64 0, .int .i64 0, .int .i64 1, .int .i64 1]) ∧ Below w.heap.size w w' := by
  go_enter Tryz.func189, Tryz.ntmps189
  go_wp2
  refine bodyPost_ret (by simp [results, Tryz.results189, go_sem]; try rfl) rfl ?_
  exact ⟨rfl, by go_grown⟩

set_option maxRecDepth 100000 in
set_option maxHeartbeats 1000000 in
theorem formof_18 (w : World) : Calls Tryz.prog 189 #[.int .i64 18] w fun r w' => r = .returned (.agg #[.bool false, .bool false, .bool true, .int .i64 0, .int .i64 0, .int .i64 0, .int .i64 0, .int .i64 0, .int .i64 0, .int .i64 1, .int .i64 1]) ∧ Below w.heap.size w w' := by
  go_enter Tryz.func189, Tryz.ntmps189
  go_wp2
  refine bodyPost_ret (by simp [results, Tryz.results189, go_sem]; try rfl) rfl ?_
  exact ⟨rfl, by go_grown⟩

set_option maxRecDepth 100000 in
set_option maxHeartbeats 1000000 in
theorem formof_19 (w : World) : Calls Tryz.prog 189 #[.int .i64 19] w fun r w' => r = .returned (.agg #[.bool true, .bool true, .bool false, .int .i64 1, .int .i64 8, .int .i64 0, .int .i64 0, .int .i64 1, .int .i64 1, .int .i64 0, .int .i64 0]) ∧ Below w.heap.size w w' := by
  go_enter Tryz.func189, Tryz.ntmps189
  go_wp2
  refine bodyPost_ret (by simp [results, Tryz.results189, go_sem]; try rfl) rfl ?_
  exact ⟨rfl, by go_grown⟩

set_option maxRecDepth 100000 in
set_option maxHeartbeats 1000000 in
theorem formof_20 (w : World) : Calls Tryz.prog 189 #[.int .i64 20] w fun r w' => r = .returned (.agg #[.bool true, .bool false, .bool false, .int .i64 0, .int .i64 6, .int .i64 0, .int .i64 0, .int .i64 2, .int .i64 2, .int .i64 0, .int .i64 0]) ∧ Below w.heap.size w w' := by
  go_enter Tryz.func189, Tryz.ntmps189
  go_wp2
  refine bodyPost_ret (by simp [results, Tryz.results189, go_sem]; try rfl) rfl ?_
  exact ⟨rfl, by go_grown⟩

set_option maxRecDepth 100000 in
set_option maxHeartbeats 1000000 in
theorem formof_21 (w : World) : Calls Tryz.prog 189 #[.int .i64 21] w fun r w' => r = .returned (.agg #[.bool true, .bool false, .bool false, .int .i64 0, .int .i64 6, .int .i64 0, .int .i64 0, .int .i64 2, .int .i64 2, .int .i64 0, .int .i64 0]) ∧ Below w.heap.size w w' := by
  go_enter Tryz.func189, Tryz.ntmps189
  go_wp2
  refine bodyPost_ret (by simp [results, Tryz.results189, go_sem]; try rfl) rfl ?_
  exact ⟨rfl, by go_grown⟩

set_option maxRecDepth 100000 in
set_option maxHeartbeats 1000000 in
theorem formof_22 (w : World) : Calls Tryz.prog 189 #[.int .i64 22] w fun r w' => r = .returned (.agg #[.bool false, .bool false, .bool false, .int .i64 0, .int .i64 0, .int .i64 0, .int .i64 0, .int .i64 1, .int .i64 9223372036854775807, .int .i64 0, .int .i64 0]) ∧ Below w.heap.size w w' := by
  go_enter Tryz.func189, Tryz.ntmps189
  go_wp2
  refine bodyPost_ret (by simp [results, Tryz.results189, go_sem]; try rfl) rfl ?_
  exact ⟨rfl, by go_grown⟩
theorem formof_any (k : Int) (w : World) (h : 1 ≤ k ∧ k ≤ 22) : Calls Tryz.prog 189 #[.int .i64 k] w fun r w' => r = .returned (frm k).val ∧ Below w.heap.size w w' := by
  have : k = 1 ∨ k = 2 ∨ k = 3 ∨ k = 4 ∨ k = 5 ∨ k = 6 ∨ k = 7 ∨ k = 8 ∨ k = 9 ∨ k = 10 ∨ k = 11 ∨ k = 12 ∨ k = 13 ∨ k = 14 ∨ k = 15 ∨ k = 16 ∨ k = 17 ∨ k = 18 ∨ k = 19 ∨ k = 20 ∨ k = 21 ∨ k = 22 := by omega
  rcases this with rfl | rfl | rfl | rfl | rfl | rfl | rfl | rfl | rfl | rfl | rfl | rfl | rfl | rfl | rfl | rfl | rfl | rfl | rfl | rfl | rfl | rfl
  · exact formof_1 w
  · exact formof_2 w
  · exact formof_3 w
  · exact formof_4 w
  · exact formof_5 w
  · exact formof_6 w
  · exact formof_7 w
  · exact formof_8 w
  · exact formof_9 w
  · exact formof_10 w
  · exact formof_11 w
  · exact formof_12 w
  · exact formof_13 w
  · exact formof_14 w
  · exact formof_15 w
  · exact formof_16 w
  · exact formof_17 w
  · exact formof_18 w
  · exact formof_19 w
  · exact formof_20 w
  · exact formof_21 w
  · exact formof_22 w

end Go.Proofs.YticnfeolbfmgfaaGreatDoor

namespace Go.Proofs.YticnfeolbfmgfaaGreatDoor
open Go.RowKit LX Go.Shelf
set_option linter.unusedVariables false

theorem acont_any (U : Value) (us : List ByteArray) (X : ByteArray) (w : World) (h : NmsAt w U us) :
    Calls Tryz.prog 163 #[U, .string X] w fun e w' => e = .returned (.bool (Lib.containsS us X)) ∧ w' = w := by
  obtain ⟨lu, p, c, rfl, hc, rfl | ⟨b, off, rfl, hb, hs⟩⟩ := h
  · exact Tryz.slices_Contains_string_empty p c X w
  · have h := Tryz.slices_Contains_string b off us.length c us X w (Nat.le_refl _) lu (fun j hj => by rw [hs j hj]; simp [List.getD, hj])
    rwa [List.take_length] at h
theorem NmsAt.take {w : World} {p : Option Addr} {n c : Nat} {vs : List ByteArray} (h : NmsAt w (.slice p n c) vs) (k : Nat) (hk : k ≤ vs.length) : NmsAt w (.slice p k c) (vs.take k) := by
  obtain ⟨hl, p', c', e, hc, h⟩ := h
  injection e with e1 e2 e3
  subst e1 e3
  refine ⟨by rw [List.length_take]; omega, p, c, by rw [List.length_take, Nat.min_eq_left hk], by rw [List.length_take]; omega, ?_⟩
  rcases h with h | ⟨b, off, h1, h2, h3⟩
  · exact Or.inl (by rw [h]; simp)
  · refine Or.inr ⟨b, off, h1, h2, fun i hi => ?_⟩
    rw [List.length_take] at hi
    rw [List.getElem_take]
    exact h3 i (by omega)
/-- Does one stand there twice? -/
def repN (acc : List ByteArray) : List ByteArray → Bool
  | [] => false
  | x :: l => Lib.containsS acc x || repN (acc ++ [x]) l

set_option maxRecDepth 100000 in
set_option maxHeartbeats 2000000 in
theorem arep_any (V : Value) (vs : List ByteArray) (w : World) (hV : NmsAt w V vs) :
    Calls Tryz.prog 162 #[V] w fun r w' => r = .returned (.bool (repN [] vs)) ∧ w' = w := by
  have HV0 := hV
  obtain ⟨p, c, rfl, hl, hc, HX0⟩ := hV.form
  have HX : Hid (∀ i (hi : i < vs.length), ∃ b off, p = some ⟨b, off, none⟩ ∧ b < w.heap.size ∧ w.cell? ⟨b, off + i, none⟩ = some (.string vs[i])) := HX0
  have cC : Hid (∀ (k : Nat) (X : ByteArray), k ≤ vs.length → Calls Tryz.prog 163 #[.slice p k c, .string X] w fun e w' => e = .returned (.bool (Lib.containsS (vs.take k) X)) ∧ w' = w) := fun k X hk => acont_any _ _ X w (HV0.take k hk)
  clear hV HX0 HV0
  obtain ⟨R, eR⟩ : ∃ R : Bool, Hid (repN [] vs = R) := ⟨_, rfl⟩
  obtain ⟨n, en⟩ : ∃ n : Nat, Hid (vs.length = n) := ⟨_, rfl⟩
  rw [eR.out, en.out]
  rw [en.out] at hl hc
  go_enter Tryz.func162, Tryz.ntmps162
  go_wp2
  go_loop [7] (fun i => ∃ k : Nat, k ≤ n ∧ i = .int .i64 k ∧ Hid (R = repN (vs.take k) (vs.drop k))) (fun i => n - (intOf i).toNat)
  case atStart => exact ⟨0, Nat.zero_le _, rfl, by rw [List.drop_zero]; exact eR.out.symm⟩
  case round =>
    obtain ⟨k, hk, rfl, hr⟩ := hrel
    by_cases hlt : k < n
    · have kx : k < vs.length := by have := en.out; omega
      obtain ⟨b, off, rfl, hb, r0⟩ := HX.out k kx
      have hlt' : (k : Int) < n := by omega
      have hkc : (k : Int) ≤ c := by omega
      have hr2 : Hid (R = (Lib.containsS (vs.take k) vs[k] || repN (vs.take (k + 1)) (vs.drop (k + 1)))) := by
        have h := hr.out
        rw [List.drop_eq_getElem_cons kx] at h
        rw [h, List.take_succ_eq_append_getElem kx]
        rfl
      clear hr
      have cC1 := cC.out k vs[k] (by have := en.out; omega)
      generalize vs[k] = X at r0 hr2 cC1
      generalize Lib.containsS (vs.take k) X = CB at cC1 hr2
      have CC1 : Hid (Calls Tryz.prog 163 #[.slice (some ⟨b, off, none⟩) k c, .string X] w fun e w' => e = .returned (.bool CB) ∧ w' = w) := cC1
      clear cC1
      cases CB with
      | true =>
        have hr3 : Hid (R = true) := by have h := hr2.out; unfold Hid; simpa using h
        go_wp2_with fail
        refine CC1.out.mono ?_
        rintro e w2 ⟨rfl, rfl⟩
        clear CC1
        go_wp2
        go_ret
        rw [hr3.out]
        exact ⟨rfl, rfl⟩
      | false =>
        have hr3 : Hid (R = repN (vs.take (k + 1)) (vs.drop (k + 1))) := by have h := hr2.out; unfold Hid; simpa using h
        go_wp2_with fail
        refine CC1.out.mono ?_
        rintro e w2 ⟨rfl, rfl⟩
        clear CC1
        go_wp2
        exact ⟨⟨k + 1, by omega, by go_num, hr3⟩, by simp [intOf]; omega⟩
    · have c2 : ¬ (k : Int) < n := by omega
      have hr3 : Hid (R = false) := by
        have h := hr.out
        rw [List.drop_eq_nil_of_le (by have := en.out; omega)] at h
        exact h
      go_wp2
      go_ret
      rw [hr3.out]
      exact ⟨rfl, rfl⟩

/-- Has a formula its form? -/
def formedM (m : Frm) (op lo hi : Int) (nm : ByteArray) (o : Bool) (vars : List ByteArray) (nt ns nr : Nat) : Bool := decide (m.vl ≤ (vars.length : Int) ∧ (vars.length : Int) ≤ m.vm) && (decide (m.tl ≤ (nt : Int) ∧ (nt : Int) ≤ m.tm) && (decide (m.sl ≤ (ns : Int) ∧ (ns : Int) ≤ m.sm) && (decide (m.rl ≤ (nr : Int) ∧ (nr : Int) ≤ m.rm) && (namesB vars && ((if m.nm = true then nameB nm else nm.toList == []) && (opB op m.op && itvB lo hi o m.iv))))))

set_option maxRecDepth 100000 in
set_option maxHeartbeats 8000000 in
theorem formed_any (k op lo hi : Int) (nm : ByteArray) (o : Bool) (V : Value) (vars : List ByteArray) (pt ps pr : Option Addr) (nt ct ns cs nr cr : Nat) (w : World) (hV : NmsAt w V vars) (hk : 1 ≤ k ∧ k ≤ 22) :
    Calls Tryz.prog 161 #[.agg #[.int .i64 k, .string nm, .int .i64 op, V, .slice pt nt ct, .int .i64 lo, .int .i64 hi, .bool o, .slice ps ns cs, .slice pr nr cr]] w fun r w' => r = .returned (.bool (formedM (frm k) op lo hi nm o vars nt ns nr)) ∧ Below w.heap.size w w' := by
  have cF : Hid (∀ W : World, Calls Tryz.prog 189 #[.int .i64 k] W fun r w' => r = .returned (frm k).val ∧ Below W.heap.size W w') := fun W => formof_any k W hk
  have cT : Hid (∀ (a b n : Int) (W : World), Calls Tryz.prog 190 #[.agg #[.int .i64 a, .int .i64 b], .int .i64 n] W fun r w' => r = .returned (.bool (decide (a ≤ n ∧ n ≤ b))) ∧ Below W.heap.size W w') := fun a b n W => takes_any a b n W
  have cA : Hid (∀ W : World, Below w.heap.size w W → Calls Tryz.prog 191 #[V] W fun r w' => r = .returned (.bool (namesB vars)) ∧ w' = W) := fun W hW => anames_any V vars W (hV.below hW)
  have cM : Hid (∀ (b : Bool) (W : World), Calls Tryz.prog 192 #[.string nm, .bool b] W fun r w' => r = .returned (.bool (if b = true then nameB nm else nm.toList == [])) ∧ w' = W) := fun b W => named_any nm b W
  have cO : Hid (∀ (b : Bool) (W : World), Calls Tryz.prog 193 #[.int .i64 op, .bool b] W fun r w' => r = .returned (.bool (opB op b)) ∧ w' = W) := fun b W => isop_any op b W
  have cI : Hid (∀ (b : Bool) (W : World), Calls Tryz.prog 194 #[.agg #[.int .i64 lo, .int .i64 hi, .bool o], .bool b] W fun r w' => r = .returned (.bool (itvB lo hi o b)) ∧ Below W.heap.size W w') := fun b W => isiv_any lo hi o b W
  generalize frm k = m at *
  obtain ⟨pv, cv, rfl, -⟩ := hV.form
  obtain ⟨nv, env⟩ : ∃ n : Nat, Hid (vars.length = n) := ⟨_, rfl⟩
  have hR : Hid (formedM m op lo hi nm o vars nt ns nr = (decide (m.vl ≤ (nv : Int) ∧ (nv : Int) ≤ m.vm) && (decide (m.tl ≤ (nt : Int) ∧ (nt : Int) ≤ m.tm) && (decide (m.sl ≤ (ns : Int) ∧ (ns : Int) ≤ m.sm) && (decide (m.rl ≤ (nr : Int) ∧ (nr : Int) ≤ m.rm) && (namesB vars && ((if m.nm = true then nameB nm else nm.toList == []) && (opB op m.op && itvB lo hi o m.iv)))))))) := by
    unfold Hid formedM
    rw [env.out]
  rw [env.out] at cA ⊢
  generalize formedM m op lo hi nm o vars nt ns nr = R at *
  have c1 : Hid (∀ W : World, Calls Tryz.prog 190 #[.agg #[.int .i64 m.vl, .int .i64 m.vm], .int .i64 nv] W fun r w' => r = .returned (.bool (decide (m.vl ≤ (nv : Int) ∧ (nv : Int) ≤ m.vm))) ∧ Below W.heap.size W w') := fun W => cT.out _ _ _ W
  have c2 : Hid (∀ W : World, Calls Tryz.prog 190 #[.agg #[.int .i64 m.tl, .int .i64 m.tm], .int .i64 nt] W fun r w' => r = .returned (.bool (decide (m.tl ≤ (nt : Int) ∧ (nt : Int) ≤ m.tm))) ∧ Below W.heap.size W w') := fun W => cT.out _ _ _ W
  have c3 : Hid (∀ W : World, Calls Tryz.prog 190 #[.agg #[.int .i64 m.sl, .int .i64 m.sm], .int .i64 ns] W fun r w' => r = .returned (.bool (decide (m.sl ≤ (ns : Int) ∧ (ns : Int) ≤ m.sm))) ∧ Below W.heap.size W w') := fun W => cT.out _ _ _ W
  have c4 : Hid (∀ W : World, Calls Tryz.prog 190 #[.agg #[.int .i64 m.rl, .int .i64 m.rm], .int .i64 nr] W fun r w' => r = .returned (.bool (decide (m.rl ≤ (nr : Int) ∧ (nr : Int) ≤ m.rm))) ∧ Below W.heap.size W w') := fun W => cT.out _ _ _ W
  have c6 : Hid (∀ W : World, Calls Tryz.prog 192 #[.string nm, .bool m.nm] W fun r w' => r = .returned (.bool (if m.nm = true then nameB nm else nm.toList == [])) ∧ w' = W) := fun W => cM.out m.nm W
  have c7 : Hid (∀ W : World, Calls Tryz.prog 193 #[.int .i64 op, .bool m.op] W fun r w' => r = .returned (.bool (opB op m.op)) ∧ w' = W) := fun W => cO.out m.op W
  have c8 : Hid (∀ W : World, Calls Tryz.prog 194 #[.agg #[.int .i64 lo, .int .i64 hi, .bool o], .bool m.iv] W fun r w' => r = .returned (.bool (itvB lo hi o m.iv)) ∧ Below W.heap.size W w') := fun W => cI.out m.iv W
  clear cT cM cO cI hV
  generalize decide (m.vl ≤ (nv : Int) ∧ (nv : Int) ≤ m.vm) = b1 at *
  generalize decide (m.tl ≤ (nt : Int) ∧ (nt : Int) ≤ m.tm) = b2 at *
  generalize decide (m.sl ≤ (ns : Int) ∧ (ns : Int) ≤ m.sm) = b3 at *
  generalize decide (m.rl ≤ (nr : Int) ∧ (nr : Int) ≤ m.rm) = b4 at *
  generalize namesB vars = b5 at *
  generalize (if m.nm = true then nameB nm else nm.toList == []) = b6 at *
  generalize opB op m.op = b7 at *
  generalize itvB lo hi o m.iv = b8 at *
  unfold Frm.val at cF
  obtain ⟨mnm, mop, miv, mvl, mvm, mtl, mtm, msl, msm, mrl, mrm⟩ := m
  dsimp only at cF c1 c2 c3 c4 c6 c7 c8
  go_enter Tryz.func161, Tryz.ntmps161
  go_wp2_with fail
  refine (cF.out _).mono ?_
  rintro r w1 ⟨rfl, hb1⟩
  have x0 : w1.cell? ⟨w.heap.size, 0, none⟩ = some (.int .i64 k) := (hb1.cell (p := ⟨w.heap.size, 0, none⟩) (by simp)).trans (by simp [go_sem])
  have x1 : w1.cell? ⟨w.heap.size, 1, none⟩ = some (.string nm) := (hb1.cell (p := ⟨w.heap.size, 1, none⟩) (by simp)).trans (by simp [go_sem])
  have x2 : w1.cell? ⟨w.heap.size, 2, none⟩ = some (.int .i64 op) := (hb1.cell (p := ⟨w.heap.size, 2, none⟩) (by simp)).trans (by simp [go_sem])
  have x3 : w1.cell? ⟨w.heap.size, 3, none⟩ = some (.slice pv nv cv) := (hb1.cell (p := ⟨w.heap.size, 3, none⟩) (by simp)).trans (by simp [go_sem])
  have x4 : w1.cell? ⟨w.heap.size, 4, none⟩ = some (.slice pt nt ct) := (hb1.cell (p := ⟨w.heap.size, 4, none⟩) (by simp)).trans (by simp [go_sem])
  have x5 : w1.cell? ⟨w.heap.size, 5, none⟩ = some (.int .i64 lo) := (hb1.cell (p := ⟨w.heap.size, 5, none⟩) (by simp)).trans (by simp [go_sem])
  have x6 : w1.cell? ⟨w.heap.size, 6, none⟩ = some (.int .i64 hi) := (hb1.cell (p := ⟨w.heap.size, 6, none⟩) (by simp)).trans (by simp [go_sem])
  have x7 : w1.cell? ⟨w.heap.size, 7, none⟩ = some (.bool o) := (hb1.cell (p := ⟨w.heap.size, 7, none⟩) (by simp)).trans (by simp [go_sem])
  have x8 : w1.cell? ⟨w.heap.size, 8, none⟩ = some (.slice ps ns cs) := (hb1.cell (p := ⟨w.heap.size, 8, none⟩) (by simp)).trans (by simp [go_sem])
  have x9 : w1.cell? ⟨w.heap.size, 9, none⟩ = some (.slice pr nr cr) := (hb1.cell (p := ⟨w.heap.size, 9, none⟩) (by simp)).trans (by simp [go_sem])
  have hs1 : w.heap.size < w1.heap.size := by have := hb1.size; simp at this; omega
  have hne1 : w.heap.size ≠ w1.heap.size := by omega
  obtain ⟨hB1, -⟩ := bgX (n := w.heap.size) (W0 := w) (by go_grown) (by go_size) hb1
  clear hb1 cF
  go_wp2_with fail
  refine (c1.out _).mono ?_
  rintro r w2 ⟨rfl, hb2⟩
  have x0' : w2.cell? ⟨w.heap.size, 0, none⟩ = some (.int .i64 k) := (hb2.cell (p := ⟨w.heap.size, 0, none⟩) (by simp; omega)).trans (by simp (maxDischargeDepth := 6) [go_sem, *])
  have x1' : w2.cell? ⟨w.heap.size, 1, none⟩ = some (.string nm) := (hb2.cell (p := ⟨w.heap.size, 1, none⟩) (by simp; omega)).trans (by simp (maxDischargeDepth := 6) [go_sem, *])
  have x2' : w2.cell? ⟨w.heap.size, 2, none⟩ = some (.int .i64 op) := (hb2.cell (p := ⟨w.heap.size, 2, none⟩) (by simp; omega)).trans (by simp (maxDischargeDepth := 6) [go_sem, *])
  have x3' : w2.cell? ⟨w.heap.size, 3, none⟩ = some (.slice pv nv cv) := (hb2.cell (p := ⟨w.heap.size, 3, none⟩) (by simp; omega)).trans (by simp (maxDischargeDepth := 6) [go_sem, *])
  have x4' : w2.cell? ⟨w.heap.size, 4, none⟩ = some (.slice pt nt ct) := (hb2.cell (p := ⟨w.heap.size, 4, none⟩) (by simp; omega)).trans (by simp (maxDischargeDepth := 6) [go_sem, *])
  have x5' : w2.cell? ⟨w.heap.size, 5, none⟩ = some (.int .i64 lo) := (hb2.cell (p := ⟨w.heap.size, 5, none⟩) (by simp; omega)).trans (by simp (maxDischargeDepth := 6) [go_sem, *])
  have x6' : w2.cell? ⟨w.heap.size, 6, none⟩ = some (.int .i64 hi) := (hb2.cell (p := ⟨w.heap.size, 6, none⟩) (by simp; omega)).trans (by simp (maxDischargeDepth := 6) [go_sem, *])
  have x7' : w2.cell? ⟨w.heap.size, 7, none⟩ = some (.bool o) := (hb2.cell (p := ⟨w.heap.size, 7, none⟩) (by simp; omega)).trans (by simp (maxDischargeDepth := 6) [go_sem, *])
  have x8' : w2.cell? ⟨w.heap.size, 8, none⟩ = some (.slice ps ns cs) := (hb2.cell (p := ⟨w.heap.size, 8, none⟩) (by simp; omega)).trans (by simp (maxDischargeDepth := 6) [go_sem, *])
  have x9' : w2.cell? ⟨w.heap.size, 9, none⟩ = some (.slice pr nr cr) := (hb2.cell (p := ⟨w.heap.size, 9, none⟩) (by simp; omega)).trans (by simp (maxDischargeDepth := 6) [go_sem, *])
  have y0 : w2.cell? ⟨w1.heap.size, 0, none⟩ = some (.bool mnm) := (hb2.cell (p := ⟨w1.heap.size, 0, none⟩) (by simp)).trans (by simp [go_sem])
  have y1 : w2.cell? ⟨w1.heap.size, 1, none⟩ = some (.bool mop) := (hb2.cell (p := ⟨w1.heap.size, 1, none⟩) (by simp)).trans (by simp [go_sem])
  have y2 : w2.cell? ⟨w1.heap.size, 2, none⟩ = some (.bool miv) := (hb2.cell (p := ⟨w1.heap.size, 2, none⟩) (by simp)).trans (by simp [go_sem])
  have y3 : w2.cell? ⟨w1.heap.size, 3, none⟩ = some (.int .i64 mvl) := (hb2.cell (p := ⟨w1.heap.size, 3, none⟩) (by simp)).trans (by simp [go_sem])
  have y4 : w2.cell? ⟨w1.heap.size, 4, none⟩ = some (.int .i64 mvm) := (hb2.cell (p := ⟨w1.heap.size, 4, none⟩) (by simp)).trans (by simp [go_sem])
  have y5 : w2.cell? ⟨w1.heap.size, 5, none⟩ = some (.int .i64 mtl) := (hb2.cell (p := ⟨w1.heap.size, 5, none⟩) (by simp)).trans (by simp [go_sem])
  have y6 : w2.cell? ⟨w1.heap.size, 6, none⟩ = some (.int .i64 mtm) := (hb2.cell (p := ⟨w1.heap.size, 6, none⟩) (by simp)).trans (by simp [go_sem])
  have y7 : w2.cell? ⟨w1.heap.size, 7, none⟩ = some (.int .i64 msl) := (hb2.cell (p := ⟨w1.heap.size, 7, none⟩) (by simp)).trans (by simp [go_sem])
  have y8 : w2.cell? ⟨w1.heap.size, 8, none⟩ = some (.int .i64 msm) := (hb2.cell (p := ⟨w1.heap.size, 8, none⟩) (by simp)).trans (by simp [go_sem])
  have y9 : w2.cell? ⟨w1.heap.size, 9, none⟩ = some (.int .i64 mrl) := (hb2.cell (p := ⟨w1.heap.size, 9, none⟩) (by simp)).trans (by simp [go_sem])
  have y10 : w2.cell? ⟨w1.heap.size, 10, none⟩ = some (.int .i64 mrm) := (hb2.cell (p := ⟨w1.heap.size, 10, none⟩) (by simp)).trans (by simp [go_sem])
  have hs2 : w1.heap.size < w2.heap.size := by have := hb2.size; simp at this; omega
  obtain ⟨hB2, -⟩ := bgX (n := w1.heap.size) (W0 := w1) (by go_grown) (by go_size) hb2
  have K2 : Below w.heap.size w w2 := hB1.trans (hB2.mono hB1.size)
  clear hb2 c1 hB2 x0 x1 x2 x3 x4 x5 x6 x7 x8 x9
  have FACT : Hid (∀ W : World, Below w2.heap.size w2 W → W.cell? ⟨w.heap.size, 0, none⟩ = some (.int .i64 k) ∧ W.cell? ⟨w.heap.size, 1, none⟩ = some (.string nm) ∧ W.cell? ⟨w.heap.size, 2, none⟩ = some (.int .i64 op) ∧ W.cell? ⟨w.heap.size, 3, none⟩ = some (.slice pv nv cv) ∧ W.cell? ⟨w.heap.size, 4, none⟩ = some (.slice pt nt ct) ∧ W.cell? ⟨w.heap.size, 5, none⟩ = some (.int .i64 lo) ∧ W.cell? ⟨w.heap.size, 6, none⟩ = some (.int .i64 hi) ∧ W.cell? ⟨w.heap.size, 7, none⟩ = some (.bool o) ∧ W.cell? ⟨w.heap.size, 8, none⟩ = some (.slice ps ns cs) ∧ W.cell? ⟨w.heap.size, 9, none⟩ = some (.slice pr nr cr) ∧ W.cell? ⟨w1.heap.size, 0, none⟩ = some (.bool mnm) ∧ W.cell? ⟨w1.heap.size, 1, none⟩ = some (.bool mop) ∧ W.cell? ⟨w1.heap.size, 2, none⟩ = some (.bool miv) ∧ W.cell? ⟨w1.heap.size, 3, none⟩ = some (.int .i64 mvl) ∧ W.cell? ⟨w1.heap.size, 4, none⟩ = some (.int .i64 mvm) ∧ W.cell? ⟨w1.heap.size, 5, none⟩ = some (.int .i64 mtl) ∧ W.cell? ⟨w1.heap.size, 6, none⟩ = some (.int .i64 mtm) ∧ W.cell? ⟨w1.heap.size, 7, none⟩ = some (.int .i64 msl) ∧ W.cell? ⟨w1.heap.size, 8, none⟩ = some (.int .i64 msm) ∧ W.cell? ⟨w1.heap.size, 9, none⟩ = some (.int .i64 mrl) ∧ W.cell? ⟨w1.heap.size, 10, none⟩ = some (.int .i64 mrm) ∧ Below w.heap.size w W) := fun W hW => ⟨(hW.cell (p := ⟨w.heap.size, 0, none⟩) (by show w.heap.size < w2.heap.size; omega)).trans x0', (hW.cell (p := ⟨w.heap.size, 1, none⟩) (by show w.heap.size < w2.heap.size; omega)).trans x1', (hW.cell (p := ⟨w.heap.size, 2, none⟩) (by show w.heap.size < w2.heap.size; omega)).trans x2', (hW.cell (p := ⟨w.heap.size, 3, none⟩) (by show w.heap.size < w2.heap.size; omega)).trans x3', (hW.cell (p := ⟨w.heap.size, 4, none⟩) (by show w.heap.size < w2.heap.size; omega)).trans x4', (hW.cell (p := ⟨w.heap.size, 5, none⟩) (by show w.heap.size < w2.heap.size; omega)).trans x5', (hW.cell (p := ⟨w.heap.size, 6, none⟩) (by show w.heap.size < w2.heap.size; omega)).trans x6', (hW.cell (p := ⟨w.heap.size, 7, none⟩) (by show w.heap.size < w2.heap.size; omega)).trans x7', (hW.cell (p := ⟨w.heap.size, 8, none⟩) (by show w.heap.size < w2.heap.size; omega)).trans x8', (hW.cell (p := ⟨w.heap.size, 9, none⟩) (by show w.heap.size < w2.heap.size; omega)).trans x9', (hW.cell (p := ⟨w1.heap.size, 0, none⟩) hs2).trans y0, (hW.cell (p := ⟨w1.heap.size, 1, none⟩) hs2).trans y1, (hW.cell (p := ⟨w1.heap.size, 2, none⟩) hs2).trans y2, (hW.cell (p := ⟨w1.heap.size, 3, none⟩) hs2).trans y3, (hW.cell (p := ⟨w1.heap.size, 4, none⟩) hs2).trans y4, (hW.cell (p := ⟨w1.heap.size, 5, none⟩) hs2).trans y5, (hW.cell (p := ⟨w1.heap.size, 6, none⟩) hs2).trans y6, (hW.cell (p := ⟨w1.heap.size, 7, none⟩) hs2).trans y7, (hW.cell (p := ⟨w1.heap.size, 8, none⟩) hs2).trans y8, (hW.cell (p := ⟨w1.heap.size, 9, none⟩) hs2).trans y9, (hW.cell (p := ⟨w1.heap.size, 10, none⟩) hs2).trans y10, K2.trans (hW.mono K2.size)⟩
  clear x0' x1' x2' x3' x4' x5' x6' x7' x8' x9' y0 y1 y2 y3 y4 y5 y6 y7 y8 y9 y10 K2
  have Z0 : Below w2.heap.size w2 w2 := Below.refl _ _
  cases b1 with
  | false =>
    have hR2 : Hid (R = false) := by have h := hR.out; unfold Hid; simpa using h
    obtain ⟨x0, x1, x2, x3, x4, x5, x6, x7, x8, x9, y0, y1, y2, y3, y4, y5, y6, y7, y8, y9, y10, kB⟩ := FACT.out w2 Z0
    go_wp2
    go_ret
    rw [hR2.out]
    exact ⟨rfl, kB⟩
  | true =>
  obtain ⟨x0, x1, x2, x3, x4, x5, x6, x7, x8, x9, y0, y1, y2, y3, y4, y5, y6, y7, y8, y9, y10, kB⟩ := FACT.out w2 Z0
  go_wp2_with fail
  refine (c2.out _).mono ?_
  rintro r v1 ⟨rfl, hv1⟩
  have Z1 : Below w2.heap.size w2 v1 := Z0.trans (hv1.mono Z0.size)
  clear hv1 c2 x0 x1 x2 x3 x4 x5 x6 x7 x8 x9 y0 y1 y2 y3 y4 y5 y6 y7 y8 y9 y10 kB
  cases b2 with
  | false =>
    have hR2 : Hid (R = false) := by have h := hR.out; unfold Hid; simpa using h
    obtain ⟨x0, x1, x2, x3, x4, x5, x6, x7, x8, x9, y0, y1, y2, y3, y4, y5, y6, y7, y8, y9, y10, kB⟩ := FACT.out v1 Z1
    go_wp2
    go_ret
    rw [hR2.out]
    exact ⟨rfl, kB⟩
  | true =>
  obtain ⟨x0, x1, x2, x3, x4, x5, x6, x7, x8, x9, y0, y1, y2, y3, y4, y5, y6, y7, y8, y9, y10, kB⟩ := FACT.out v1 Z1
  go_wp2_with fail
  refine (c3.out _).mono ?_
  rintro r v2 ⟨rfl, hv2⟩
  have Z2 : Below w2.heap.size w2 v2 := Z1.trans (hv2.mono Z1.size)
  clear hv2 c3 x0 x1 x2 x3 x4 x5 x6 x7 x8 x9 y0 y1 y2 y3 y4 y5 y6 y7 y8 y9 y10 kB
  cases b3 with
  | false =>
    have hR2 : Hid (R = false) := by have h := hR.out; unfold Hid; simpa using h
    obtain ⟨x0, x1, x2, x3, x4, x5, x6, x7, x8, x9, y0, y1, y2, y3, y4, y5, y6, y7, y8, y9, y10, kB⟩ := FACT.out v2 Z2
    go_wp2
    go_ret
    rw [hR2.out]
    exact ⟨rfl, kB⟩
  | true =>
  obtain ⟨x0, x1, x2, x3, x4, x5, x6, x7, x8, x9, y0, y1, y2, y3, y4, y5, y6, y7, y8, y9, y10, kB⟩ := FACT.out v2 Z2
  go_wp2_with fail
  refine (c4.out _).mono ?_
  rintro r v3 ⟨rfl, hv3⟩
  have Z3 : Below w2.heap.size w2 v3 := Z2.trans (hv3.mono Z2.size)
  clear hv3 c4 x0 x1 x2 x3 x4 x5 x6 x7 x8 x9 y0 y1 y2 y3 y4 y5 y6 y7 y8 y9 y10 kB
  cases b4 with
  | false =>
    have hR2 : Hid (R = false) := by have h := hR.out; unfold Hid; simpa using h
    obtain ⟨x0, x1, x2, x3, x4, x5, x6, x7, x8, x9, y0, y1, y2, y3, y4, y5, y6, y7, y8, y9, y10, kB⟩ := FACT.out v3 Z3
    go_wp2
    go_ret
    rw [hR2.out]
    exact ⟨rfl, kB⟩
  | true =>
  obtain ⟨x0, x1, x2, x3, x4, x5, x6, x7, x8, x9, y0, y1, y2, y3, y4, y5, y6, y7, y8, y9, y10, kB⟩ := FACT.out v3 Z3
  go_wp2_with fail
  refine (cA.out _ kB).mono ?_
  rintro r v4 ⟨rfl, rfl⟩
  have Z4 : Below w2.heap.size w2 v4 := Z3
  clear cA x0 x1 x2 x3 x4 x5 x6 x7 x8 x9 y0 y1 y2 y3 y4 y5 y6 y7 y8 y9 y10 kB
  cases b5 with
  | false =>
    have hR2 : Hid (R = false) := by have h := hR.out; unfold Hid; simpa using h
    obtain ⟨x0, x1, x2, x3, x4, x5, x6, x7, x8, x9, y0, y1, y2, y3, y4, y5, y6, y7, y8, y9, y10, kB⟩ := FACT.out v4 Z4
    go_wp2
    go_ret
    rw [hR2.out]
    exact ⟨rfl, kB⟩
  | true =>
  obtain ⟨x0, x1, x2, x3, x4, x5, x6, x7, x8, x9, y0, y1, y2, y3, y4, y5, y6, y7, y8, y9, y10, kB⟩ := FACT.out v4 Z4
  go_wp2_with fail
  refine (c6.out _).mono ?_
  rintro r v5 ⟨rfl, rfl⟩
  have Z5 : Below w2.heap.size w2 v5 := Z4
  clear c6 x0 x1 x2 x3 x4 x5 x6 x7 x8 x9 y0 y1 y2 y3 y4 y5 y6 y7 y8 y9 y10 kB
  cases b6 with
  | false =>
    have hR2 : Hid (R = false) := by have h := hR.out; unfold Hid; simpa using h
    obtain ⟨x0, x1, x2, x3, x4, x5, x6, x7, x8, x9, y0, y1, y2, y3, y4, y5, y6, y7, y8, y9, y10, kB⟩ := FACT.out v5 Z5
    go_wp2
    go_ret
    rw [hR2.out]
    exact ⟨rfl, kB⟩
  | true =>
  obtain ⟨x0, x1, x2, x3, x4, x5, x6, x7, x8, x9, y0, y1, y2, y3, y4, y5, y6, y7, y8, y9, y10, kB⟩ := FACT.out v5 Z5
  go_wp2_with fail
  refine (c7.out _).mono ?_
  rintro r v6 ⟨rfl, rfl⟩
  have Z6 : Below w2.heap.size w2 v6 := Z5
  clear c7 x0 x1 x2 x3 x4 x5 x6 x7 x8 x9 y0 y1 y2 y3 y4 y5 y6 y7 y8 y9 y10 kB
  cases b7 with
  | false =>
    have hR2 : Hid (R = false) := by have h := hR.out; unfold Hid; simpa using h
    obtain ⟨x0, x1, x2, x3, x4, x5, x6, x7, x8, x9, y0, y1, y2, y3, y4, y5, y6, y7, y8, y9, y10, kB⟩ := FACT.out v6 Z6
    go_wp2
    go_ret
    rw [hR2.out]
    exact ⟨rfl, kB⟩
  | true =>
  obtain ⟨x0, x1, x2, x3, x4, x5, x6, x7, x8, x9, y0, y1, y2, y3, y4, y5, y6, y7, y8, y9, y10, kB⟩ := FACT.out v6 Z6
  go_wp2_with fail
  refine (c8.out _).mono ?_
  rintro r v7 ⟨rfl, hv7⟩
  have Z7 : Below w2.heap.size w2 v7 := Z6.trans (hv7.mono Z6.size)
  clear hv7 c8 x0 x1 x2 x3 x4 x5 x6 x7 x8 x9 y0 y1 y2 y3 y4 y5 y6 y7 y8 y9 y10 kB
  have hR2 : Hid (R = b8) := by have h := hR.out; unfold Hid; simpa using h
  obtain ⟨x0, x1, x2, x3, x4, x5, x6, x7, x8, x9, y0, y1, y2, y3, y4, y5, y6, y7, y8, y9, y10, kB⟩ := FACT.out v7 Z7
  go_wp2
  go_ret
  rw [hR2.out]
  exact ⟨rfl, kB⟩

end Go.Proofs.YticnfeolbfmgfaaGreatDoor

namespace Go.Proofs.YticnfeolbfmgfaaGreatDoor
open Go.RowKit LX Go.Shelf
set_option linter.unusedVariables false

theorem inStA : (Tryz.prog.info? 9).map (fun i => (i.zero, i.size, i.bytes)) = some (some (.string ByteArray.empty), 1, 16) := by kernel_rfl
/-- A slice of texts of the call's own. -/
def OwnN (B : Nat) (v : Value) (vs : List ByteArray) (w : World) : Prop := w.ownsRow B 9 1 v vs.length (vs.map Value.string)
theorem own_belA {w w' : World} {B e size n : Nat} {v : Value} {xs : List Value} (h : w.ownsRow B e size v n xs) (hb : Below w.heap.size w w') : w'.ownsRow B e size v n xs :=
  World.ownsRow.kept h (row := none) ⟨hb.os, hb.tape, hb.output, hb.size, fun k hk _ => hb.block k hk⟩ (by cases hv : v.ownBlock with | none => exact Or.inl rfl | some k => exact Or.inr (by intro h; cases h))
theorem OwnN.bel {B : Nat} {v : Value} {L : List ByteArray} {w w' : World} (h : OwnN B v L w) (hb : Below w.heap.size w w') : OwnN B v L w' := own_belA h hb
theorem OwnN.nil (B : Nat) (w : World) : OwnN B (.slice none 0 0) [] w := ⟨rfl, .inl ⟨rfl, rfl⟩⟩
theorem OwnN.cap {B : Nat} {v : Value} {L : List ByteArray} {w : World} (h : OwnN B v L w) : ∃ p c, v = .slice p L.length c ∧ L.length ≤ c ∧ (L = [] ∨ ∃ g, p = some ⟨g, 0, none⟩ ∧ B ≤ g ∧ g < w.heap.size ∧ ∀ i (hi : i < L.length), w.cell? ⟨g, i, none⟩ = some (.string L[i])) := by
  have h' : w.ownsRow B 9 1 v L.length (L.map Value.string) := h
  obtain ⟨hl, ⟨e, hn⟩ | ⟨g, cap, cur, rfl, hg1, hg2, hg3, hg4, hg5, hg6⟩⟩ := h
  · exact ⟨none, 0, by rw [e, hn], by omega, Or.inl (List.length_eq_zero_iff.1 hn)⟩
  · refine ⟨_, _, rfl, by omega, Or.inr ⟨g, rfl, hg1, (Array.getElem?_eq_some_iff.1 hg2).1, fun i hi => ?_⟩⟩
    rw [h'.cellAt _ (by omega)]
    simp [hi]
theorem OwnN.nms {B : Nat} {v : Value} {L : List ByteArray} {w : World} (h : OwnN B v L w) (hl : L.length ≤ 9223372036854775807) : NmsAt w v L := by
  obtain ⟨p, c, e, hc, h | ⟨g, h1, h2, h3, h4⟩⟩ := h.cap
  · exact ⟨hl, p, c, e, hc, Or.inl h⟩
  · exact ⟨hl, p, c, e, hc, Or.inr ⟨g, 0, h1, h3, fun i hi => by rw [Nat.zero_add]; exact h4 i hi⟩⟩

set_option maxRecDepth 100000 in
set_option maxHeartbeats 4000000 in
theorem without_any (V O : Value) (vs us : List ByteArray) (w : World) (hV : NmsAt w V vs) (hO : NmsAt w O us) (lv : vs.length ≤ 1000000000) :
    Calls Tryz.prog 167 #[V, O] w fun e w' => ∃ v, e = .returned v ∧ OwnN w.heap.size v (vs.filter fun s => !Lib.containsS us s) w' ∧ Below w.heap.size w w' := by
  obtain ⟨i0, hi, hz0, hz1, hz2⟩ := info_parts inStA
  obtain ⟨p, c, rfl, hl, hc, HX0⟩ := hV.form
  have HX : Hid (∀ i (hi : i < vs.length), ∃ b off, p = some ⟨b, off, none⟩ ∧ b < w.heap.size ∧ w.cell? ⟨b, off + i, none⟩ = some (.string vs[i])) := HX0
  have cK : Hid (∀ (W : World) (X : ByteArray), Below w.heap.size w W → Calls Tryz.prog 163 #[O, .string X] W fun e w' => e = .returned (.bool (Lib.containsS us X)) ∧ w' = W) := fun W X hW => acont_any O us X W (hO.below hW)
  obtain ⟨p', c', rfl, -, -⟩ := hO.form
  clear HX0 hV hO
  obtain ⟨n, en⟩ : ∃ n : Nat, Hid (vs.length = n) := ⟨_, rfl⟩
  rw [en.out] at lv hl hc ⊢
  generalize us.length = nu at *
  go_enter Tryz.func167, Tryz.ntmps167
  go_wp2
  go_loopw [5, 10] (fun v5 v wr => ∃ (k : Nat) (L : List ByteArray), k ≤ n ∧ v = .int .i64 k ∧ L.length ≤ k ∧ Hid (L = (vs.take k).filter fun s => !Lib.containsS us s) ∧ Below w.heap.size w wr ∧ Hid (OwnN w.heap.size v5 L wr)) (fun _ v _ => n - (intOf v).toNat)
  case atStart => exact ⟨0, [], Nat.zero_le _, rfl, Nat.le_refl _, (by show _ = _; simp), Below.refl _ _, OwnN.nil _ _⟩
  case round =>
    obtain ⟨k, L, hk, rfl, hLk, hF, hB, hO⟩ := hrel
    have hsz := hB.size
    have HK : Hid (∀ q, u5.ownBlock = some q → w.heap.size ≤ q) := fun q hq => (World.ownsRow.lt hO.out q hq).1
    by_cases hlt : k < n
    case neg =>
      have c2 : ¬ (k : Int) < n := by omega
      have hF2 : Hid (vs.filter (fun s => !Lib.containsS us s) = L) := by
        have h := hF.out
        rw [List.take_of_length_le (by have := en.out; omega)] at h
        exact h.symm
      go_wp2
      go_ret
      rw [hF2.out]
      exact ⟨_, rfl, hO.out, hB⟩
    have hlt' : (k : Int) < n := by omega
    have kx : k < vs.length := by have := en.out; omega
    obtain ⟨b, off, rfl, hb, a0⟩ := HX.out k kx
    have a1 := (hB.cell (p := ⟨b, off + k, none⟩) hb).trans a0
    have hF2 : Hid ((vs.take (k + 1)).filter (fun s => !Lib.containsS us s) = if Lib.containsS us vs[k] = true then L else L ++ [vs[k]]) := by
      have h := hF.out
      rw [List.take_succ_eq_append_getElem kx, List.filter_append, ← h]
      unfold Hid
      rcases Bool.eq_false_or_eq_true (Lib.containsS us vs[k]) with h5 | h5 <;> simp [h5]
    have cK1 : Hid (Calls Tryz.prog 163 #[.slice p' nu c', .string vs[k]] wr fun e w' => e = .returned (.bool (Lib.containsS us vs[k])) ∧ w' = wr) := cK.out wr _ hB
    clear hF a0
    generalize vs[k] = X at *
    generalize Lib.containsS us X = CB at *
    go_wp2_with fail
    refine cK1.out.mono ?_
    rintro r w1 ⟨rfl, rfl⟩
    clear cK1
    cases CB with
    | true =>
      have hF3 : Hid (L = (vs.take (k + 1)).filter fun s => !Lib.containsS us s) := by have h := hF2.out; rw [if_pos rfl] at h; exact h.symm
      go_wp2
      exact ⟨⟨k + 1, L, by omega, by go_num, by omega, hF3, hB, hO⟩, by simp [intOf]; omega⟩
    | false =>
      have hF3 : Hid (L ++ [X] = (vs.take (k + 1)).filter fun s => !Lib.containsS us s) := by have h := hF2.out; rw [if_neg (by decide)] at h; exact h.symm
      clear hF2
      go_wp2_with (at_builtin; refine wpList_append_own _ rfl _ _ 22 rfl w.heap.size 9 i0 (.string ByteArray.empty) 1 16 Tryz.underlying22 hi hz0 hz1 hz2 rfl (by decide) _ _ _ rfl (World.ownsRow.alloc hO.out _) ⟨w1.heap.size, 0, none⟩ 1 1 [.string X] rfl rfl ?cc1 ?cc2 ?cc3 ?cc4 ?cc5 ?_)
      case cc1 => (intro j u hj; rw [Addr.add_lit]; (rcases j with _ | j) <;> simp at hj <;> subst hj <;> simp (maxDischargeDepth := 12) [go_sem])
      case cc2 => (intro u hu; simp at hu; subst hu; rfl)
      case cc3 => unfold maxLen; omega
      case cc4 => omega
      case cc5 => first | omega | (simp; omega)
      intro v' w3 h2 h3 _
      have O3 : Hid (OwnN w.heap.size v' (L ++ [X]) w3) := by
        show w3.ownsRow _ _ _ _ _ _
        rw [List.length_append, List.map_append]
        exact h2
      have B3 : Below w.heap.size w w3 := Below.grown (hB.alloc hsz _) h3 (by simp; omega) HK.out
      clear h2 h3 HK hO
      go_wp2
      exact ⟨⟨k + 1, L ++ [X], by omega, by go_num, by simp; omega, hF3, B3, O3⟩, by simp [intOf]; omega⟩

end Go.Proofs.YticnfeolbfmgfaaGreatDoor

namespace Go.Proofs.YticnfeolbfmgfaaGreatDoor
open Go.RowKit LX Go.Shelf
set_option linter.unusedVariables false

theorem run_append_noneA {P : Program} (w : World) (t ty e : TypeId) (i : TypeInfo) (ht : P.underlying t = some (.slice e)) (hi : P.info? e = some i) (base : Option Addr) (sLen sCap : Nat) (p : Option Addr) (c : Nat) (h : sLen ≤ sCap) :
    (Builtin.append_ #[t, t] ty #[.slice base sLen sCap, .slice p 0 c]).run P w = .ok (.slice base sLen sCap) w := by
  cases base <;> cases p <;> simp [Builtin.append_, run_underlying ht, sizeOf, typeInfo, hi, Builtin.lenOf, Builtin.firstCells, loadCells, loadCellsFrom, storeCells, h]

/-- What a slice hands over to append: nothing, or as many cells as are told. -/
def SrcA (w : World) (size : Nat) (u : Value) (m : Nat) (news : List Value) : Prop := (∃ p c, u = .slice p 0 c ∧ m = 0 ∧ news = []) ∨ ∃ ad c, u = .slice (some ad) m c ∧ news.length = m * size ∧ ∀ j x, news[j]? = some x → w.cell? (ad.add j) = some x

theorem wpList_append_srcA {P : Program} {w : World} {ops : Array Oper} {rest : List Oper} {o : Oper} {a : Act} {Q : Exit → Act → World → Prop} (hgd : o.guard = none) (s x : Operand) (t : TypeId)
    (ho : o.op = .call { callee := .builtin .append, args := #[s, x], argTypes := #[t, t] })
    (base : Nat) (e : TypeId) (i : TypeInfo) (z : Value) (size bytes : Nat) (ht : P.underlying t = some (.slice e)) (hi : P.info? e = some i) (hz : i.zero = some z)
    (hsize : i.size = size) (hby : i.bytes = bytes) (hzs : z.cells.size = size) (hsz : 0 < size)
    (v : Value) (n : Nat) (xs : List Value) (hs : a.eval s = v) (hown : w.ownsRow base e size v n xs)
    (u : Value) (m : Nat) (news : List Value) (hx : a.eval x = u) (hsrc : SrcA w size u m news) (h1 : ∀ u ∈ news, u.oneCell' = true)
    (h63 : n + m ≤ maxLen) (hbytes : (n + m) * bytes ≤ 140737488355328) (hbase : base ≤ w.heap.size)
    (h : ∀ v' w', w'.ownsRow base e size v' (n + m) (xs ++ news) → w.grownBy w' v.ownBlock → (v'.ownBlock = v.ownBlock ∨ v'.ownBlock = some w.heap.size) → wpList P ops Q rest (a.put o.dst v') w') :
    wpList P ops Q (o :: rest) a w := by
  rcases hsrc with ⟨p, c, rfl, rfl, rfl⟩ | ⟨ad, c, rfl, hl, hnews⟩
  · obtain ⟨b0, n0, c0, rfl, hle⟩ : ∃ b0 n0 c0, v = .slice b0 n0 c0 ∧ n0 ≤ c0 := by
      obtain ⟨-, ⟨rfl, -⟩ | ⟨g, cap, cur, rfl, -, -, hn, -⟩⟩ := hown
      · exact ⟨_, _, _, rfl, Nat.le_refl _⟩
      · exact ⟨_, _, _, rfl, hn⟩
    exact Lib.wpList_append_run w hgd s x t t ho _ _ hs hx _ _ (run_append_noneA w t o.type e i ht hi b0 n0 c0 p c hle) (h _ _ (by simpa using hown) ⟨rfl, rfl, rfl, Nat.le_refl _, fun _ _ _ => rfl⟩ (Or.inl rfl))
  · exact wpList_append_own_at w hgd s x t ho base e i z size bytes ht hi hz hsize hby hzs hsz v n xs hs hown ad m c news hx hl hnews h1 h63 hbytes hbase (fun v' w' a1 a2 _ a4 => h v' w' a1 a2 a4)

theorem srcA_nms {w : World} {u : Value} {xs : List ByteArray} (h : NmsAt w u xs) : SrcA w 1 u xs.length (xs.map Value.string) := by
  obtain ⟨hl, p, c, rfl, hc, rfl | ⟨b, off, rfl, hb, hs⟩⟩ := h
  · exact Or.inl ⟨p, c, rfl, rfl, rfl⟩
  · refine Or.inr ⟨_, _, rfl, by simp, fun j x hj => ?_⟩
    obtain ⟨h1, h2⟩ := List.getElem?_eq_some_iff.1 hj
    rw [List.length_map] at h1
    rw [List.getElem_map] at h2
    rw [← h2, Addr.add_lit]
    exact hs j h1

/-- The four slices of a formula. -/
structure FQ where
  v : Value
  t : Value
  s : Value
  r : Value
/-- A formula's ten cells. -/
def fcs (x : Fm × FQ) : List Value := [.int .i64 x.1.k, .string x.1.nm, .int .i64 x.1.op, x.2.v, x.2.t, .int .i64 x.1.lo, .int .i64 x.1.hi, .bool x.1.opn, x.2.s, x.2.r]
def flatF (ps : List (Fm × FQ)) : List Value := ps.flatMap fcs
theorem flatF_len (xs : List (Fm × FQ)) : (flatF xs).length = xs.length * 10 := by
  induction xs with
  | nil => rfl
  | cons x xs ih => simp only [flatF, List.flatMap_cons, List.length_append, List.length_cons] at ih ⊢; rw [ih]; simp [fcs]; omega
theorem flatF_append (xs ys : List (Fm × FQ)) : flatF (xs ++ ys) = flatF xs ++ flatF ys := by simp [flatF]
theorem flatF_get : ∀ (xs : List (Fm × FQ)) (i j : Nat) (h : i < xs.length), j < 10 → (flatF xs)[i * 10 + j]? = (fcs xs[i])[j]?
  | x :: xs, 0, j, h, hj => by
    simp only [flatF, List.flatMap_cons, Nat.zero_mul, Nat.zero_add, List.getElem_cons_zero]
    rw [List.getElem?_append_left (by simp [fcs]; omega)]
  | x :: xs, i + 1, j, h, hj => by
    have ih := flatF_get xs i j (by simpa using h) hj
    simp only [flatF, List.flatMap_cons, List.getElem_cons_succ] at ih ⊢
    rw [List.getElem?_append_right (by simp [fcs]; omega)]
    rw [← ih]
    congr 1
    simp [fcs]
    omega
/-- What a formula's slices tell, where they lie. -/
def QAt (w : World) (x : Fm × FQ) : Prop := NmsAt w x.2.v x.1.vars ∧ TmsAt w x.2.t x.1.terms ∧ FmsAt w x.2.s x.1.subs ∧ RxsAt w x.2.r x.1.rgx
theorem QAt.below {w w' : World} {x : Fm × FQ} (h : QAt w x) (hb : Below w.heap.size w w') : QAt w' x := ⟨h.1.below hb, h.2.1.bel hb, h.2.2.1.bel hb, h.2.2.2.bel hb⟩
theorem NmsAt.one {w : World} {u : Value} {xs : List ByteArray} (h : NmsAt w u xs) : u.oneCell' = true := by obtain ⟨-, p, c, rfl, -⟩ := h; rfl
theorem TmsAt.one {w : World} {u : Value} {xs : List Tm} (h : TmsAt w u xs) : u.oneCell' = true := by obtain ⟨p, c, rfl, -⟩ := h.form; rfl
theorem FmsAt.one {w : World} {u : Value} {xs : List Fm} (h : FmsAt w u xs) : u.oneCell' = true := by obtain ⟨p, c, rfl, -⟩ := h.form; rfl
theorem RxsAt.one {w : World} {u : Value} {xs : List Rx} (h : RxsAt w u xs) : u.oneCell' = true := by obtain ⟨p, c, rfl, -⟩ := h.form; rfl
theorem flatF_one {w : World} {ps : List (Fm × FQ)} (h : ∀ x ∈ ps, QAt w x) : ∀ u ∈ flatF ps, u.oneCell' = true := by
  intro u hu
  simp only [flatF, List.mem_flatMap] at hu
  obtain ⟨x, hx, hu⟩ := hu
  obtain ⟨h1, h2, h3, h4⟩ := h x hx
  simp only [fcs, List.mem_cons, List.not_mem_nil, or_false] at hu
  rcases hu with rfl | rfl | rfl | rfl | rfl | rfl | rfl | rfl | rfl | rfl
  · rfl
  · rfl
  · rfl
  · exact h1.one
  · exact h2.one
  · rfl
  · rfl
  · rfl
  · exact h3.one
  · exact h4.one
/-- Formulas that lie somewhere, as a source of append. -/
theorem srcF {w : World} {u : Value} {fs : List Fm} (h : FmsAt w u fs) : ∃ ps : List (Fm × FQ), ps.map Prod.fst = fs ∧ (∀ x ∈ ps, QAt w x) ∧ ∀ W, Below w.heap.size w W → SrcA W 10 u fs.length (flatF ps) := by
  cases h with
  | nil => exact ⟨[], rfl, fun x hx => by simp at hx, fun W _ => Or.inl ⟨_, _, rfl, rfl, rfl⟩⟩
  | @row b off c fs uv ut us ur hl hc hB cells vars terms sub rgx =>
    refine ⟨List.ofFn fun i : Fin fs.length => (fs[i.1], ⟨uv i.1, ut i.1, us i.1, ur i.1⟩), ?_, fun x hx => ?_, fun W hb => Or.inr ⟨_, _, rfl, by rw [flatF_len, List.length_ofFn], fun j x hj => ?_⟩⟩
    · apply List.ext_getElem
      · simp
      · intro i h1 h2
        simp
    · rw [List.mem_ofFn] at hx
      obtain ⟨i, rfl⟩ := hx
      exact ⟨vars i.1 i.2, terms i.1 i.2, sub i.1 i.2, rgx i.1 i.2⟩
    · obtain ⟨hlt, -⟩ := List.getElem?_eq_some_iff.1 hj
      rw [flatF_len, List.length_ofFn] at hlt
      have hi : j / 10 < fs.length := by omega
      have g := flatF_get (List.ofFn fun i : Fin fs.length => (fs[i.1], (⟨uv i.1, ut i.1, us i.1, ur i.1⟩ : FQ))) (j / 10) (j % 10) (by rw [List.length_ofFn]; exact hi) (by omega)
      rw [show j / 10 * 10 + j % 10 = j by omega, hj, List.getElem_ofFn] at g
      obtain ⟨c0, c1, c2, c3, c4, c5, c6, c7, c8, c9⟩ := (cells (j / 10) hi).below hb hB
      have ej : off + j = off + j / 10 * 10 + j % 10 := by omega
      rw [Addr.add_lit, ej]
      have hr : j % 10 < 10 := by omega
      generalize j % 10 = r at g hr ⊢
      rcases r with _ | _ | _ | _ | _ | _ | _ | _ | _ | _ | r
      all_goals first | omega | (simp only [fcs, List.getElem?_cons_zero, List.getElem?_cons_succ, Option.some.injEq] at g; subst g; assumption)

theorem inFA : (Tryz.prog.info? 29).map (fun i => (i.zero, i.size, i.bytes)) = some (some (.agg #[.int .i64 0, .string ByteArray.empty, .int .i64 0, .slice none 0 0, .slice none 0 0, .int .i64 0, .int .i64 0, .bool false, .slice none 0 0, .slice none 0 0]), 10, 152) := by kernel_rfl
/-- A slice of formulas of the call's own; what stands within lies in the memory told. -/
def OwnF (w0 : World) (B : Nat) (v : Value) (fs : List Fm) (w : World) : Prop := ∃ ps : List (Fm × FQ), ps.map Prod.fst = fs ∧ (∀ x ∈ ps, QAt w0 x) ∧ w.ownsRow B 29 10 v fs.length (flatF ps)
theorem OwnF.nil (w0 : World) (B : Nat) (w : World) : OwnF w0 B (.slice none 0 0) [] w := ⟨[], rfl, fun x hx => by simp at hx, rfl, .inl ⟨rfl, rfl⟩⟩
theorem OwnF.bel {w0 : World} {B : Nat} {v : Value} {L : List Fm} {w w' : World} (h : OwnF w0 B v L w) (hb : Below w.heap.size w w') : OwnF w0 B v L w' := by
  obtain ⟨ps, h1, h2, h3⟩ := h
  exact ⟨ps, h1, h2, own_belA h3 hb⟩
theorem OwnF.src {w0 : World} {B : Nat} {v : Value} {L : List Fm} {w : World} (h : OwnF w0 B v L w) : ∃ ps : List (Fm × FQ), ps.map Prod.fst = L ∧ (∀ x ∈ ps, QAt w0 x) ∧ SrcA w 10 v L.length (flatF ps) := by
  obtain ⟨ps, h1, h2, h3⟩ := h
  have h' := h3
  have hlen : ps.length = L.length := by rw [← h1, List.length_map]
  refine ⟨ps, h1, h2, ?_⟩
  obtain ⟨hl2, ⟨e, hn⟩ | ⟨g, cap, cur, rfl, hg1, hg2, hg3, hg4, hg5, hg6⟩⟩ := h3
  · refine Or.inl ⟨none, 0, e, hn, ?_⟩
    apply List.eq_nil_of_length_eq_zero
    rw [flatF_len]
    omega
  · refine Or.inr ⟨_, _, rfl, by rw [flatF_len, hlen], fun j x hj => ?_⟩
    obtain ⟨hlt, -⟩ := List.getElem?_eq_some_iff.1 hj
    rw [flatF_len] at hlt
    rw [Addr.add_lit, Nat.zero_add, h'.cellAt _ (by omega)]
    exact hj
theorem OwnF.app {w0 : World} {B : Nat} {v : Value} {ps qs : List (Fm × FQ)} {L M : List Fm} {w : World} (h1 : ps.map Prod.fst = L) (h2 : ∀ x ∈ ps, QAt w0 x) (g1 : qs.map Prod.fst = M) (g2 : ∀ x ∈ qs, QAt w0 x) (h : w.ownsRow B 29 10 v (L.length + M.length) (flatF ps ++ flatF qs)) : OwnF w0 B v (L ++ M) w := by
  refine ⟨ps ++ qs, by rw [List.map_append, h1, g1], fun x hx => ?_, ?_⟩
  · rcases List.mem_append.1 hx with hx | hx
    · exact h2 x hx
    · exact g2 x hx
  · rw [flatF_append, List.length_append]
    exact h
theorem OwnF.fms {w0 : World} {B : Nat} {v : Value} {L : List Fm} {w : World} (h : OwnF w0 B v L w) (hb : Below w0.heap.size w0 w) (hl : L.length ≤ 9223372036854775807) : FmsAt w v L := by
  obtain ⟨ps, h1, h2, h3⟩ := h
  have h' := h3
  have hlen : ps.length = L.length := by rw [← h1, List.length_map]
  obtain ⟨hl2, ⟨e, hn⟩ | ⟨g, cap, cur, rfl, hg1, hg2, hg3, hg4, hg5, hg6⟩⟩ := h3
  · rw [e, List.length_eq_zero_iff.1 hn]
    exact .nil
  · have hc : ∀ i (hi : i < L.length) (j : Nat), j < 10 → w.cell? ⟨g, 0 + i * 10 + j, none⟩ = (fcs (ps[i]'(by omega)))[j]? := fun i hi j hj => by
      rw [show 0 + i * 10 + j = i * 10 + j by omega, h'.cellAt _ (by omega), flatF_get ps i j (by omega) hj]
    have he : ∀ i (hi : i < L.length), (ps[i]'(by omega)).1 = L[i] := fun i hi => by
      have h5 : (ps.map Prod.fst)[i]? = L[i]? := by rw [h1]
      rw [List.getElem?_map, List.getElem?_eq_getElem (show i < ps.length by omega), List.getElem?_eq_getElem hi] at h5
      simpa using h5
    have hq : ∀ i (hi : i < L.length), QAt w (ps[i]'(by omega)) := fun i hi => (h2 _ (List.getElem_mem _)).below hb
    refine .row (fun i => if h : i < ps.length then ps[i].2.v else .slice none 0 0) (fun i => if h : i < ps.length then ps[i].2.t else .slice none 0 0) (fun i => if h : i < ps.length then ps[i].2.s else .slice none 0 0) (fun i => if h : i < ps.length then ps[i].2.r else .slice none 0 0) hl hg3 (Array.getElem?_eq_some_iff.1 hg2).1 (fun i hi => ?_) (fun i hi => ?_) (fun i hi => ?_) (fun i hi => ?_) (fun i hi => ?_)
    · have hx := hc i hi
      have e := he i hi
      simp only [dif_pos (show i < ps.length by omega)]
      rw [← e]
      exact ⟨hx 0 (by omega), hx 1 (by omega), hx 2 (by omega), hx 3 (by omega), hx 4 (by omega), hx 5 (by omega), hx 6 (by omega), hx 7 (by omega), hx 8 (by omega), hx 9 (by omega)⟩
    · simp only [dif_pos (show i < ps.length by omega)]; rw [← he i hi]; exact (hq i hi).1
    · simp only [dif_pos (show i < ps.length by omega)]; rw [← he i hi]; exact (hq i hi).2.1
    · simp only [dif_pos (show i < ps.length by omega)]; rw [← he i hi]; exact (hq i hi).2.2.1
    · simp only [dif_pos (show i < ps.length by omega)]; rw [← he i hi]; exact (hq i hi).2.2.2

end Go.Proofs.YticnfeolbfmgfaaGreatDoor

namespace Go.Proofs.YticnfeolbfmgfaaGreatDoor
open Go.RowKit LX Go.Shelf
set_option linter.unusedVariables false

set_option maxRecDepth 100000 in
set_option maxHeartbeats 8000000 in
theorem eachT_any (xs : List Tm) (V : Value) (w : World) (hV : TmsAt w V xs) (hn : xs.length ≤ 1000000000) (HC : ∀ i (hi : i < xs.length) (u : Value) (W : World), Below w.heap.size w W → TmsAt w u xs[i].subs → Calls Tryz.prog 40 #[.agg #[.int .i64 xs[i].k, .string xs[i].nm, .int .i64 xs[i].v.k, .int .i64 xs[i].v.n, .int .i64 xs[i].v.d, .string xs[i].v.s, u]] W fun e w' => e = .returned (.string ⟨(txT xs[i]).toArray⟩) ∧ Below W.heap.size W w') :
    Calls Tryz.prog 39 #[V, .func (.func 40) #[] #[]] w fun e w' => ∃ v, e = .returned v ∧ OwnN w.heap.size v (xs.map fun x => ⟨(txT x).toArray⟩) w' ∧ Below w.heap.size w w' := by
  obtain ⟨i0, hi, hz0, hz1, hz2⟩ := info_parts inStA
  obtain ⟨p, c, rfl, hl, hc, HX0⟩ := hV.form
  have HX : Hid (∀ i (hi : i < xs.length), ∃ b off u, p = some ⟨b, off, none⟩ ∧ b < w.heap.size ∧ TmC w b (off + i * 7) xs[i] u ∧ TmsAt w u xs[i].subs ∧ xs[i].v.Fits) := HX0
  have HC9 : Hid (∀ i (hi : i < xs.length) (u : Value) (W : World), Below w.heap.size w W → TmsAt w u xs[i].subs → Calls Tryz.prog 40 #[.agg #[.int .i64 xs[i].k, .string xs[i].nm, .int .i64 xs[i].v.k, .int .i64 xs[i].v.n, .int .i64 xs[i].v.d, .string xs[i].v.s, u]] W fun e w' => e = .returned (.string ⟨(txT xs[i]).toArray⟩) ∧ Below W.heap.size W w') := HC
  clear HX0 hV HC
  obtain ⟨n, en⟩ : ∃ n : Nat, Hid (xs.length = n) := ⟨_, rfl⟩
  obtain ⟨RS, eRS⟩ : ∃ L : List ByteArray, Hid ((xs.map fun x => ⟨(txT x).toArray⟩) = L) := ⟨_, rfl⟩
  rw [eRS.out]
  rw [en.out] at hn hl hc ⊢
  go_enter Tryz.func39, Tryz.ntmps39
  go_wp2
  go_loopw [5, 10] (fun v5 v wr => ∃ (k : Nat) (L : List ByteArray), k ≤ n ∧ v = .int .i64 k ∧ L.length ≤ k ∧ Hid (L = (xs.take k).map fun x => ⟨(txT x).toArray⟩) ∧ Below w.heap.size w wr ∧ Hid (OwnN w.heap.size v5 L wr)) (fun _ v _ => n - (intOf v).toNat)
  case atStart => exact ⟨0, [], Nat.zero_le _, rfl, Nat.le_refl _, (by show _ = _; simp), Below.refl _ _, OwnN.nil _ _⟩
  case round =>
    obtain ⟨k, L, hk, rfl, hLk, hF, hB, hO⟩ := hrel
    have hsz := hB.size
    have HK : Hid (∀ q, u5.ownBlock = some q → w.heap.size ≤ q) := fun q hq => (World.ownsRow.lt hO.out q hq).1
    by_cases hlt : k < n
    case neg =>
      have c2 : ¬ (k : Int) < n := by omega
      have hF2 : Hid (RS = L) := by
        have h := hF.out
        rw [List.take_of_length_le (by have := en.out; omega)] at h
        exact eRS.out.symm.trans h.symm
      go_wp2
      go_ret
      rw [hF2.out]
      exact ⟨_, rfl, hO.out, hB⟩
    have hlt' : (k : Int) < n := by omega
    have kx : k < xs.length := by have := en.out; omega
    obtain ⟨b, off, u, rfl, hb, TC, Nu, -⟩ := HX.out k kx
    obtain ⟨a0, a1, a2, a3, a4, a5, a6⟩ := TC.below hB hb
    have hF3 : Hid (L ++ [⟨(txT xs[k]).toArray⟩] = (xs.take (k + 1)).map fun x => ⟨(txT x).toArray⟩) := by
      have h := hF.out
      unfold Hid
      rw [List.take_succ_eq_append_getElem kx, List.map_append, ← h]
      rfl
    have cK : Hid (∀ (W : World), Below w.heap.size w W → Calls Tryz.prog 40 #[.agg #[.int .i64 xs[k].k, .string xs[k].nm, .int .i64 xs[k].v.k, .int .i64 xs[k].v.n, .int .i64 xs[k].v.d, .string xs[k].v.s, u]] W fun e w' => e = .returned (.string ⟨(txT xs[k]).toArray⟩) ∧ Below W.heap.size W w') := fun W hW => HC9.out k kx u W hW Nu
    clear hF TC
    obtain ⟨pu, cu, rfl, -⟩ := Nu.form
    generalize (⟨(txT xs[k]).toArray⟩ : ByteArray) = S at *
    generalize xs[k] = x at *
    generalize x.subs.length = nu at *
    generalize x.v.k = vk at *
    generalize x.v.n = vn at *
    generalize x.v.d = vd at *
    generalize x.v.s = vs at *
    generalize x.nm = nm at *
    generalize x.k = kk at *
    obtain ⟨p5, c5, rfl⟩ : ∃ p5 c5, u5 = .slice p5 L.length c5 := by obtain ⟨p5, c5, h, -⟩ := hO.out.cap; exact ⟨p5, c5, h⟩
    go_wp2_with fail
    refine (cK.out _ (hB.alloc hsz _)).mono ?_
    rintro e w1 ⟨rfl, hb1⟩
    have hB1 : Below w.heap.size w w1 := (hB.alloc hsz _).trans (hb1.mono (by simp; omega))
    have hO1 : Hid (OwnN w.heap.size (.slice p5 L.length c5) L w1) := OwnN.bel (OwnN.bel hO.out ((Below.refl _ _).alloc (Nat.le_refl _) _)) hb1
    have HK1 := hB1.size
    clear hb1 hO hB cK hsz
    go_wp2_with (at_builtin; refine wpList_append_own _ rfl _ _ 22 rfl w.heap.size 9 i0 (.string ByteArray.empty) 1 16 Tryz.underlying22 hi hz0 hz1 hz2 rfl (by decide) _ _ _ rfl (World.ownsRow.alloc hO1.out _) ⟨w1.heap.size, 0, none⟩ 1 1 [.string S] rfl rfl ?cc1 ?cc2 ?cc3 ?cc4 ?cc5 ?_)
    case cc1 => (intro j u hj; rw [Addr.add_lit]; (rcases j with _ | j) <;> simp at hj <;> subst hj <;> simp (maxDischargeDepth := 12) [go_sem])
    case cc2 => (intro u hu; simp at hu; subst hu; rfl)
    case cc3 => unfold maxLen; omega
    case cc4 => omega
    case cc5 => first | omega | (simp; omega)
    intro v' w3 h2 h3 _
    have O3 : Hid (OwnN w.heap.size v' (L ++ [S]) w3) := by
      show w3.ownsRow _ _ _ _ _ _
      rw [List.length_append, List.map_append]
      exact h2
    have B3 : Below w.heap.size w w3 := Below.grown (hB1.alloc HK1 _) h3 (by simp; omega) HK.out
    clear h2 h3 HK hO1
    go_wp2
    exact ⟨⟨k + 1, L ++ [S], by omega, by go_num, by simp; omega, hF3, B3, O3⟩, by simp [intOf]; omega⟩

set_option maxRecDepth 100000 in
set_option maxHeartbeats 8000000 in
theorem eachR_any (xs : List Rx) (V : Value) (w : World) (hV : RxsAt w V xs) (hn : xs.length ≤ 1000000000) (HC : ∀ i (hi : i < xs.length) (ut us : Value) (W : World), Below w.heap.size w W → FmsAt w ut xs[i].test → RxsAt w us xs[i].subs → Calls Tryz.prog 42 #[.agg #[.int .i64 xs[i].k, ut, us]] W fun e w' => e = .returned (.string ⟨(txR xs[i]).toArray⟩) ∧ Below W.heap.size W w') :
    Calls Tryz.prog 41 #[V, .func (.func 42) #[] #[]] w fun e w' => ∃ v, e = .returned v ∧ OwnN w.heap.size v (xs.map fun x => ⟨(txR x).toArray⟩) w' ∧ Below w.heap.size w w' := by
  obtain ⟨i0, hi, hz0, hz1, hz2⟩ := info_parts inStA
  obtain ⟨p, c, rfl, hl, hc, HX0⟩ := hV.form
  have HX : Hid (∀ i (hi : i < xs.length), ∃ b off ut us, p = some ⟨b, off, none⟩ ∧ b < w.heap.size ∧ RxC w b (off + i * 3) xs[i] ut us ∧ FmsAt w ut xs[i].test ∧ RxsAt w us xs[i].subs) := HX0
  have HC9 : Hid (∀ i (hi : i < xs.length) (ut us : Value) (W : World), Below w.heap.size w W → FmsAt w ut xs[i].test → RxsAt w us xs[i].subs → Calls Tryz.prog 42 #[.agg #[.int .i64 xs[i].k, ut, us]] W fun e w' => e = .returned (.string ⟨(txR xs[i]).toArray⟩) ∧ Below W.heap.size W w') := HC
  clear HX0 hV HC
  obtain ⟨n, en⟩ : ∃ n : Nat, Hid (xs.length = n) := ⟨_, rfl⟩
  obtain ⟨RS, eRS⟩ : ∃ L : List ByteArray, Hid ((xs.map fun x => ⟨(txR x).toArray⟩) = L) := ⟨_, rfl⟩
  rw [eRS.out]
  rw [en.out] at hn hl hc ⊢
  go_enter Tryz.func41, Tryz.ntmps41
  go_wp2
  go_loopw [5, 10] (fun v5 v wr => ∃ (k : Nat) (L : List ByteArray), k ≤ n ∧ v = .int .i64 k ∧ L.length ≤ k ∧ Hid (L = (xs.take k).map fun x => ⟨(txR x).toArray⟩) ∧ Below w.heap.size w wr ∧ Hid (OwnN w.heap.size v5 L wr)) (fun _ v _ => n - (intOf v).toNat)
  case atStart => exact ⟨0, [], Nat.zero_le _, rfl, Nat.le_refl _, (by show _ = _; simp), Below.refl _ _, OwnN.nil _ _⟩
  case round =>
    obtain ⟨k, L, hk, rfl, hLk, hF, hB, hO⟩ := hrel
    have hsz := hB.size
    have HK : Hid (∀ q, u5.ownBlock = some q → w.heap.size ≤ q) := fun q hq => (World.ownsRow.lt hO.out q hq).1
    by_cases hlt : k < n
    case neg =>
      have c2 : ¬ (k : Int) < n := by omega
      have hF2 : Hid (RS = L) := by
        have h := hF.out
        rw [List.take_of_length_le (by have := en.out; omega)] at h
        exact eRS.out.symm.trans h.symm
      go_wp2
      go_ret
      rw [hF2.out]
      exact ⟨_, rfl, hO.out, hB⟩
    have hlt' : (k : Int) < n := by omega
    have kx : k < xs.length := by have := en.out; omega
    obtain ⟨b, off, ut, us, rfl, hb, TC, Nut, Nus⟩ := HX.out k kx
    obtain ⟨a0, a1, a2⟩ := TC.below hB hb
    have hF3 : Hid (L ++ [⟨(txR xs[k]).toArray⟩] = (xs.take (k + 1)).map fun x => ⟨(txR x).toArray⟩) := by
      have h := hF.out
      unfold Hid
      rw [List.take_succ_eq_append_getElem kx, List.map_append, ← h]
      rfl
    have cK : Hid (∀ (W : World), Below w.heap.size w W → Calls Tryz.prog 42 #[.agg #[.int .i64 xs[k].k, ut, us]] W fun e w' => e = .returned (.string ⟨(txR xs[k]).toArray⟩) ∧ Below W.heap.size W w') := fun W hW => HC9.out k kx ut us W hW Nut Nus
    clear hF TC
    obtain ⟨put, cut, rfl, -⟩ := Nut.form
    obtain ⟨pus, cus, rfl, -⟩ := Nus.form
    generalize (⟨(txR xs[k]).toArray⟩ : ByteArray) = S at *
    generalize xs[k] = x at *
    generalize x.test.length = nut at *
    generalize x.subs.length = nus at *
    generalize x.k = kk at *
    obtain ⟨p5, c5, rfl⟩ : ∃ p5 c5, u5 = .slice p5 L.length c5 := by obtain ⟨p5, c5, h, -⟩ := hO.out.cap; exact ⟨p5, c5, h⟩
    go_wp2_with fail
    refine (cK.out _ (hB.alloc hsz _)).mono ?_
    rintro e w1 ⟨rfl, hb1⟩
    have hB1 : Below w.heap.size w w1 := (hB.alloc hsz _).trans (hb1.mono (by simp; omega))
    have hO1 : Hid (OwnN w.heap.size (.slice p5 L.length c5) L w1) := OwnN.bel (OwnN.bel hO.out ((Below.refl _ _).alloc (Nat.le_refl _) _)) hb1
    have HK1 := hB1.size
    clear hb1 hO hB cK hsz
    go_wp2_with (at_builtin; refine wpList_append_own _ rfl _ _ 22 rfl w.heap.size 9 i0 (.string ByteArray.empty) 1 16 Tryz.underlying22 hi hz0 hz1 hz2 rfl (by decide) _ _ _ rfl (World.ownsRow.alloc hO1.out _) ⟨w1.heap.size, 0, none⟩ 1 1 [.string S] rfl rfl ?cc1 ?cc2 ?cc3 ?cc4 ?cc5 ?_)
    case cc1 => (intro j u hj; rw [Addr.add_lit]; (rcases j with _ | j) <;> simp at hj <;> subst hj <;> simp (maxDischargeDepth := 12) [go_sem])
    case cc2 => (intro u hu; simp at hu; subst hu; rfl)
    case cc3 => unfold maxLen; omega
    case cc4 => omega
    case cc5 => first | omega | (simp; omega)
    intro v' w3 h2 h3 _
    have O3 : Hid (OwnN w.heap.size v' (L ++ [S]) w3) := by
      show w3.ownsRow _ _ _ _ _ _
      rw [List.length_append, List.map_append]
      exact h2
    have B3 : Below w.heap.size w w3 := Below.grown (hB1.alloc HK1 _) h3 (by simp; omega) HK.out
    clear h2 h3 HK hO1
    go_wp2
    exact ⟨⟨k + 1, L ++ [S], by omega, by go_num, by simp; omega, hF3, B3, O3⟩, by simp [intOf]; omega⟩

set_option maxRecDepth 100000 in
set_option maxHeartbeats 8000000 in
theorem eachF_any (xs : List Fm) (V : Value) (w : World) (hV : FmsAt w V xs) (hn : xs.length ≤ 1000000000) (HC : ∀ i (hi : i < xs.length) (uv ut us ur : Value) (W : World), Below w.heap.size w W → NmsAt w uv xs[i].vars → TmsAt w ut xs[i].terms → FmsAt w us xs[i].subs → RxsAt w ur xs[i].rgx → Calls Tryz.prog 20 #[.agg #[.int .i64 xs[i].k, .string xs[i].nm, .int .i64 xs[i].op, uv, ut, .int .i64 xs[i].lo, .int .i64 xs[i].hi, .bool xs[i].opn, us, ur]] W fun e w' => e = .returned (.string ⟨(txF xs[i]).toArray⟩) ∧ Below W.heap.size W w') :
    Calls Tryz.prog 43 #[V, .func (.func 20) #[] #[]] w fun e w' => ∃ v, e = .returned v ∧ OwnN w.heap.size v (xs.map fun x => ⟨(txF x).toArray⟩) w' ∧ Below w.heap.size w w' := by
  obtain ⟨i0, hi, hz0, hz1, hz2⟩ := info_parts inStA
  obtain ⟨p, c, rfl, hl, hc, HX0⟩ := hV.form
  have HX : Hid (∀ i (hi : i < xs.length), ∃ b off uv ut us ur, p = some ⟨b, off, none⟩ ∧ b < w.heap.size ∧ FmC w b (off + i * 10) xs[i] uv ut us ur ∧ NmsAt w uv xs[i].vars ∧ TmsAt w ut xs[i].terms ∧ FmsAt w us xs[i].subs ∧ RxsAt w ur xs[i].rgx) := HX0
  have HC9 : Hid (∀ i (hi : i < xs.length) (uv ut us ur : Value) (W : World), Below w.heap.size w W → NmsAt w uv xs[i].vars → TmsAt w ut xs[i].terms → FmsAt w us xs[i].subs → RxsAt w ur xs[i].rgx → Calls Tryz.prog 20 #[.agg #[.int .i64 xs[i].k, .string xs[i].nm, .int .i64 xs[i].op, uv, ut, .int .i64 xs[i].lo, .int .i64 xs[i].hi, .bool xs[i].opn, us, ur]] W fun e w' => e = .returned (.string ⟨(txF xs[i]).toArray⟩) ∧ Below W.heap.size W w') := HC
  clear HX0 hV HC
  obtain ⟨n, en⟩ : ∃ n : Nat, Hid (xs.length = n) := ⟨_, rfl⟩
  obtain ⟨RS, eRS⟩ : ∃ L : List ByteArray, Hid ((xs.map fun x => ⟨(txF x).toArray⟩) = L) := ⟨_, rfl⟩
  rw [eRS.out]
  rw [en.out] at hn hl hc ⊢
  go_enter Tryz.func43, Tryz.ntmps43
  go_wp2
  go_loopw [5, 10] (fun v5 v wr => ∃ (k : Nat) (L : List ByteArray), k ≤ n ∧ v = .int .i64 k ∧ L.length ≤ k ∧ Hid (L = (xs.take k).map fun x => ⟨(txF x).toArray⟩) ∧ Below w.heap.size w wr ∧ Hid (OwnN w.heap.size v5 L wr)) (fun _ v _ => n - (intOf v).toNat)
  case atStart => exact ⟨0, [], Nat.zero_le _, rfl, Nat.le_refl _, (by show _ = _; simp), Below.refl _ _, OwnN.nil _ _⟩
  case round =>
    obtain ⟨k, L, hk, rfl, hLk, hF, hB, hO⟩ := hrel
    have hsz := hB.size
    have HK : Hid (∀ q, u5.ownBlock = some q → w.heap.size ≤ q) := fun q hq => (World.ownsRow.lt hO.out q hq).1
    by_cases hlt : k < n
    case neg =>
      have c2 : ¬ (k : Int) < n := by omega
      have hF2 : Hid (RS = L) := by
        have h := hF.out
        rw [List.take_of_length_le (by have := en.out; omega)] at h
        exact eRS.out.symm.trans h.symm
      go_wp2
      go_ret
      rw [hF2.out]
      exact ⟨_, rfl, hO.out, hB⟩
    have hlt' : (k : Int) < n := by omega
    have kx : k < xs.length := by have := en.out; omega
    obtain ⟨b, off, uv, ut, us, ur, rfl, hb, TC, Nuv, Nut, Nus, Nur⟩ := HX.out k kx
    obtain ⟨a0, a1, a2, a3, a4, a5, a6, a7, a8, a9⟩ := TC.below hB hb
    have hF3 : Hid (L ++ [⟨(txF xs[k]).toArray⟩] = (xs.take (k + 1)).map fun x => ⟨(txF x).toArray⟩) := by
      have h := hF.out
      unfold Hid
      rw [List.take_succ_eq_append_getElem kx, List.map_append, ← h]
      rfl
    have cK : Hid (∀ (W : World), Below w.heap.size w W → Calls Tryz.prog 20 #[.agg #[.int .i64 xs[k].k, .string xs[k].nm, .int .i64 xs[k].op, uv, ut, .int .i64 xs[k].lo, .int .i64 xs[k].hi, .bool xs[k].opn, us, ur]] W fun e w' => e = .returned (.string ⟨(txF xs[k]).toArray⟩) ∧ Below W.heap.size W w') := fun W hW => HC9.out k kx uv ut us ur W hW Nuv Nut Nus Nur
    clear hF TC
    obtain ⟨puv, cuv, rfl, -⟩ := Nuv.form
    obtain ⟨put, cut, rfl, -⟩ := Nut.form
    obtain ⟨pus, cus, rfl, -⟩ := Nus.form
    obtain ⟨pur, cur, rfl, -⟩ := Nur.form
    generalize (⟨(txF xs[k]).toArray⟩ : ByteArray) = S at *
    generalize xs[k] = x at *
    generalize x.vars.length = nuv at *
    generalize x.terms.length = nut at *
    generalize x.subs.length = nus at *
    generalize x.rgx.length = nur at *
    generalize x.lo = lo at *
    generalize x.hi = hh at *
    generalize x.nm = nm at *
    generalize x.opn = oo at *
    generalize x.op = op at *
    generalize x.k = kk at *
    obtain ⟨p5, c5, rfl⟩ : ∃ p5 c5, u5 = .slice p5 L.length c5 := by obtain ⟨p5, c5, h, -⟩ := hO.out.cap; exact ⟨p5, c5, h⟩
    go_wp2_with fail
    refine (cK.out _ (hB.alloc hsz _)).mono ?_
    rintro e w1 ⟨rfl, hb1⟩
    have hB1 : Below w.heap.size w w1 := (hB.alloc hsz _).trans (hb1.mono (by simp; omega))
    have hO1 : Hid (OwnN w.heap.size (.slice p5 L.length c5) L w1) := OwnN.bel (OwnN.bel hO.out ((Below.refl _ _).alloc (Nat.le_refl _) _)) hb1
    have HK1 := hB1.size
    clear hb1 hO hB cK hsz
    go_wp2_with (at_builtin; refine wpList_append_own _ rfl _ _ 22 rfl w.heap.size 9 i0 (.string ByteArray.empty) 1 16 Tryz.underlying22 hi hz0 hz1 hz2 rfl (by decide) _ _ _ rfl (World.ownsRow.alloc hO1.out _) ⟨w1.heap.size, 0, none⟩ 1 1 [.string S] rfl rfl ?cc1 ?cc2 ?cc3 ?cc4 ?cc5 ?_)
    case cc1 => (intro j u hj; rw [Addr.add_lit]; (rcases j with _ | j) <;> simp at hj <;> subst hj <;> simp (maxDischargeDepth := 12) [go_sem])
    case cc2 => (intro u hu; simp at hu; subst hu; rfl)
    case cc3 => unfold maxLen; omega
    case cc4 => omega
    case cc5 => first | omega | (simp; omega)
    intro v' w3 h2 h3 _
    have O3 : Hid (OwnN w.heap.size v' (L ++ [S]) w3) := by
      show w3.ownsRow _ _ _ _ _ _
      rw [List.length_append, List.map_append]
      exact h2
    have B3 : Below w.heap.size w w3 := Below.grown (hB1.alloc HK1 _) h3 (by simp; omega) HK.out
    clear h2 h3 HK hO1
    go_wp2
    exact ⟨⟨k + 1, L ++ [S], by omega, by go_num, by simp; omega, hF3, B3, O3⟩, by simp [intOf]; omega⟩

end Go.Proofs.YticnfeolbfmgfaaGreatDoor

namespace Go.Proofs.YticnfeolbfmgfaaGreatDoor
open Go.RowKit Go.Shelf LX
set_option linter.unusedVariables false

theorem ext_mid (s : ByteArray) (a b : Nat) : (s.extract a b).data.toList = (s.data.toList.drop a).take (b - a) := by
  simp [ByteArray.data_extract]
set_option maxRecDepth 100000 in
set_option maxHeartbeats 4000000 in
theorem said_3 (K : Int) (s S : ByteArray) (k n d E : Int) (ok : Bool) (w : World)
    (ht : Pow w) (he : Errs w) (h8 : 6 ≤ w.heap.size) :
    Calls Tryz.prog 73 #[.int .i64 3, .string s] w fun e w' => e = .returned (.tuple #[.agg #[.int .i64 0, .int .i64 0, .int .i64 0, .string ⟨#[]⟩], .bool (decide ((s.size : Int) ≤ 16))]) ∧ Below w.heap.size w w' := by
  have HE : Hid (Errs w) := he
  have HP : Hid (Pow w) := ht
  clear he ht
  go_enter Tryz.func73, Tryz.ntmps73
  go_upto_region 3 with fail
  refine wp_world ?_
  intro W2 hW2
  have R2 : Hid (BlkV W2 w.heap.size 0 0 0 ⟨#[]⟩) := by rw [hW2]; constructor <;> simp (maxDischargeDepth := 12) [go_sem]
  have B2 : Below w.heap.size w W2 := by rw [hW2]; exact (Below.refl _ w).alloc (Nat.le_refl _) _
  clear hW2
  obtain ⟨r0, r1, r2, r3, r4, r5, r6, r7⟩ := R2.out
  go_wp2
  generalize hW9 : World.setCell _ _ _ = W9
  have b9 : BlkV W9 w.heap.size 0 0 0 ⟨#[]⟩ := by rw [← hW9]; exact R2.out.four
  have hB9 : Below w.heap.size w W9 := by rw [← hW9]; exact (((B2.setCell (by simp) _).setCell (by simp) _).setCell (by simp) _).setCell (by simp) _
  clear hW9
  obtain ⟨x0, x1, x2, x3, -, -, -, -⟩ := b9
  refine bodyPost_ret (by simp [results, Tryz.results73, go_sem, x0, x1, x2, x3]; try rfl) rfl ?_
  exact ⟨rfl, hB9⟩

set_option maxRecDepth 100000 in
set_option maxHeartbeats 4000000 in
theorem said_0 (K : Int) (s S : ByteArray) (k n d E : Int) (ok : Bool) (w : World)
    (ht : Pow w) (he : Errs w) (h8 : 6 ≤ w.heap.size) (h3 : ¬ K = 3) (h5 : ¬ K = 5) (h6 : ¬ K = 6) (h7 : ¬ K = 7) :
    Calls Tryz.prog 73 #[.int .i64 K, .string s] w fun e w' => e = .returned (.tuple #[.agg #[.int .i64 0, .int .i64 0, .int .i64 0, .string ⟨#[]⟩], .bool true]) ∧ Below w.heap.size w w' := by
  have HE : Hid (Errs w) := he
  have HP : Hid (Pow w) := ht
  clear he ht
  go_enter Tryz.func73, Tryz.ntmps73
  go_upto_region 11 with fail
  refine wp_world ?_
  intro W2 hW2
  have R2 : Hid (BlkV W2 w.heap.size 0 0 0 ⟨#[]⟩) := by rw [hW2]; constructor <;> simp (maxDischargeDepth := 12) [go_sem]
  have B2 : Below w.heap.size w W2 := by rw [hW2]; exact (Below.refl _ w).alloc (Nat.le_refl _) _
  clear hW2
  obtain ⟨r0, r1, r2, r3, r4, r5, r6, r7⟩ := R2.out
  go_wp2
  generalize hW9 : World.setCell _ _ _ = W9
  have b9 : BlkV W9 w.heap.size 0 0 0 ⟨#[]⟩ := by rw [← hW9]; exact R2.out.four
  have hB9 : Below w.heap.size w W9 := by rw [← hW9]; exact (((B2.setCell (by simp) _).setCell (by simp) _).setCell (by simp) _).setCell (by simp) _
  clear hW9
  obtain ⟨x0, x1, x2, x3, -, -, -, -⟩ := b9
  refine bodyPost_ret (by simp [results, Tryz.results73, go_sem, x0, x1, x2, x3]; try rfl) rfl ?_
  exact ⟨rfl, hB9⟩

set_option maxRecDepth 100000 in
set_option maxHeartbeats 4000000 in
theorem said_6 (K : Int) (s S : ByteArray) (k n d E : Int) (ok : Bool) (w : World)
    (PA : Hid (∀ W : World, Pow W → Errs W → 6 ≤ W.heap.size → Calls Tryz.prog 117 #[.string s] W fun e w' => e = .returned (.tuple #[.agg #[.int .i64 k, .int .i64 n, .int .i64 d, .string S], .int .i64 E]) ∧ Below W.heap.size W w'))
    (ht : Pow w) (he : Errs w) (h8 : 6 ≤ w.heap.size) :
    Calls Tryz.prog 73 #[.int .i64 6, .string s] w fun e w' => e = .returned (.tuple #[.agg #[.int .i64 k, .int .i64 n, .int .i64 d, .string S], .bool (decide (E = 0))]) ∧ Below w.heap.size w w' := by
  have HE : Hid (Errs w) := he
  have HP : Hid (Pow w) := ht
  clear he ht
  go_enter Tryz.func73, Tryz.ntmps73
  go_wp2_with fail
  refine (PA.out _ (HP.out.below ((Below.refl _ w).alloc (Nat.le_refl _) _)) (HE.out.alloc h8 _) (by simp; omega)).mono ?_
  rintro e w1 ⟨rfl, hb1⟩
  have R1 : Hid (BlkV w1 w.heap.size 0 0 0 ⟨#[]⟩) := BlkV.below (by constructor <;> simp (maxDischargeDepth := 12) [go_sem]) hb1 (by simp)
  have B1 : Below w.heap.size w w1 := ((Below.refl _ w).alloc (Nat.le_refl _) _).trans (hb1.mono (by simp))
  have z1 : w.heap.size < w1.heap.size := by have := hb1.size; simp at this; omega
  clear hb1
  go_upto_region 8 with fail
  refine wp_world ?_
  intro W2 hW2
  have R2 : Hid (BlkV W2 w.heap.size 0 0 0 ⟨#[]⟩) := by rw [hW2]; exact R1.out.below ((Below.refl w1.heap.size w1).alloc (Nat.le_refl _) _) z1
  have V2 : Hid (BlkV W2 w1.heap.size k n d S) := by rw [hW2]; constructor <;> simp (maxDischargeDepth := 12) [go_sem]
  have B2 : Below w.heap.size w W2 := by rw [hW2]; exact B1.alloc B1.size _
  clear hW2 R1 B1 z1
  obtain ⟨r0, r1, r2, r3, r4, r5, r6, r7⟩ := R2.out
  obtain ⟨v0, v1, v2, v3, -, -, -, -⟩ := V2.out
  go_wp2
  generalize hW9 : World.setCell _ _ _ = W9
  have b9 : BlkV W9 w.heap.size k n d S := by rw [← hW9]; exact R2.out.four
  have hB9 : Below w.heap.size w W9 := by rw [← hW9]; exact (((B2.setCell (by simp) _).setCell (by simp) _).setCell (by simp) _).setCell (by simp) _
  clear hW9
  obtain ⟨x0, x1, x2, x3, -, -, -, -⟩ := b9
  refine bodyPost_ret (by simp [results, Tryz.results73, go_sem, x0, x1, x2, x3]; try rfl) rfl ?_
  exact ⟨rfl, hB9⟩

set_option maxRecDepth 100000 in
set_option maxHeartbeats 4000000 in
theorem said_7 (K : Int) (s S : ByteArray) (k n d E : Int) (ok : Bool) (w : World)
    (NU : Hid (∀ (t : ByteArray) (W : World), t.data.toList = s.data.toList.drop 1 → Pow W → Errs W → 6 ≤ W.heap.size → Calls Tryz.prog 118 #[.string t] W fun e w' => e = .returned (.tuple #[.agg #[.int .i64 k, .int .i64 n, .int .i64 d, .string S], .bool ok]) ∧ Below W.heap.size W w'))
    (ht : Pow w) (he : Errs w) (h8 : 6 ≤ w.heap.size) (hz : 1 ≤ s.size) :
    Calls Tryz.prog 73 #[.int .i64 7, .string s] w fun e w' => e = .returned (.tuple #[.agg #[.int .i64 k, .int .i64 n, .int .i64 d, .string S], .bool ok]) ∧ Below w.heap.size w w' := by
  have HE : Hid (Errs w) := he
  have HP : Hid (Pow w) := ht
  clear he ht
  go_enter Tryz.func73, Tryz.ntmps73
  have hz' : (1 : Int) ≤ s.size := by omega
  go_wp2_with fail
  refine (NU.out _ _ (ext_drop s 1 hz) (HP.out.below ((Below.refl _ w).alloc (Nat.le_refl _) _)) (HE.out.alloc h8 _) (by simp; omega)).mono ?_
  rintro e w1 ⟨rfl, hb1⟩
  have R1 : Hid (BlkV w1 w.heap.size 0 0 0 ⟨#[]⟩) := BlkV.below (by constructor <;> simp (maxDischargeDepth := 12) [go_sem]) hb1 (by simp)
  have B1 : Below w.heap.size w w1 := ((Below.refl _ w).alloc (Nat.le_refl _) _).trans (hb1.mono (by simp))
  have z1 : w.heap.size < w1.heap.size := by have := hb1.size; simp at this; omega
  clear hb1
  obtain ⟨r0, r1, r2, r3, r4, r5, r6, r7⟩ := R1.out
  go_wp2
  generalize hW9 : World.setCell _ _ _ = W9
  have b9 : BlkV W9 w.heap.size k n d S := by rw [← hW9]; exact R1.out.four
  have hB9 : Below w.heap.size w W9 := by rw [← hW9]; exact (((B1.setCell (by simp) _).setCell (by simp) _).setCell (by simp) _).setCell (by simp) _
  clear hW9
  obtain ⟨x0, x1, x2, x3, -, -, -, -⟩ := b9
  refine bodyPost_ret (by simp [results, Tryz.results73, go_sem, x0, x1, x2, x3]; try rfl) rfl ?_
  exact ⟨rfl, hB9⟩

set_option maxRecDepth 100000 in
set_option maxHeartbeats 4000000 in
theorem said_5 (K : Int) (s S : ByteArray) (k n d E : Int) (ok : Bool) (w : World)
    (IV : Hid (∀ (t : ByteArray) (W : World), t.data.toList = (s.data.toList.drop 1).take (s.size - 2) → Pow W → Errs W → 6 ≤ W.heap.size → Calls Tryz.prog 116 #[.string t] W fun e w' => e = .returned (.bool ok) ∧ Below W.heap.size W w'))
    (ht : Pow w) (he : Errs w) (h8 : 6 ≤ w.heap.size) (hz : 2 ≤ s.size) (hs : s.size ≤ 35184372088830) :
    Calls Tryz.prog 73 #[.int .i64 5, .string s] w fun e w' => e = .returned (.tuple #[.agg #[.int .i64 0, .int .i64 0, .int .i64 0, .string ⟨#[]⟩], .bool ok]) ∧ Below w.heap.size w w' := by
  have HE : Hid (Errs w) := he
  have HP : Hid (Pow w) := ht
  clear he ht
  go_enter Tryz.func73, Tryz.ntmps73
  obtain ⟨m, hm⟩ : ∃ m : Nat, s.size = m + 1 := ⟨s.size - 1, by omega⟩
  have hm1 : (1 : Int) ≤ m := by omega
  have hm2 : (m : Int) ≤ 35184372088829 := by omega
  have hm3 : (m : Int) ≤ (m : Int) + 1 := by omega
  go_wp2_with fail

  refine (IV.out _ _ (by rw [ext_mid]; congr 1; omega) (HP.out.below ((Below.refl _ w).alloc (Nat.le_refl _) _)) (HE.out.alloc h8 _) (by simp; omega)).mono ?_
  rintro e w1 ⟨rfl, hb1⟩
  have R1 : Hid (BlkV w1 w.heap.size 0 0 0 ⟨#[]⟩) := BlkV.below (by constructor <;> simp (maxDischargeDepth := 12) [go_sem]) hb1 (by simp)
  have B1 : Below w.heap.size w w1 := ((Below.refl _ w).alloc (Nat.le_refl _) _).trans (hb1.mono (by simp))
  have z1 : w.heap.size < w1.heap.size := by have := hb1.size; simp at this; omega
  clear hb1
  obtain ⟨r0, r1, r2, r3, r4, r5, r6, r7⟩ := R1.out
  go_wp2
  generalize hW9 : World.setCell _ _ _ = W9
  have b9 : BlkV W9 w.heap.size 0 0 0 ⟨#[]⟩ := by rw [← hW9]; exact R1.out.four
  have hB9 : Below w.heap.size w W9 := by rw [← hW9]; exact (((B1.setCell (by simp) _).setCell (by simp) _).setCell (by simp) _).setCell (by simp) _
  clear hW9
  obtain ⟨x0, x1, x2, x3, -, -, -, -⟩ := b9
  refine bodyPost_ret (by simp [results, Tryz.results73, go_sem, x0, x1, x2, x3]; try rfl) rfl ?_
  exact ⟨rfl, hB9⟩

/-- What a token of a kind says, and whether it may be. -/
def sdB (k : Nat) (l : List UInt8) : Val × Bool :=
  if k = 3 then (zeroV, decide (l.length ≤ 16)) else if k = 5 then (zeroV, ivB ((l.drop 1).take (l.length - 2))) else if k = 6 then ((prs l).1, decide ((prs l).2 = 0)) else if k = 7 then numB (l.drop 1) else (zeroV, true)
theorem said_any (K : Nat) (s : ByteArray) (w : World) (hs : s.size ≤ 35184372088830) (ht : Pow w) (he : Errs w) (h8 : 6 ≤ w.heap.size) (h5 : K = 5 → 2 ≤ s.size) (h7 : K = 7 → 1 ≤ s.size) :
    Calls Tryz.prog 73 #[.int .i64 K, .string s] w fun e w' => e = .returned (.tuple #[(sdB K s.data.toList).1.agg, .bool (sdB K s.data.toList).2]) ∧ Below w.heap.size w w' := by
  have hl : s.data.toList.length = s.size := by simp
  unfold sdB
  by_cases g3 : K = 3
  · subst g3
    rw [if_pos rfl, hl]
    have q := said_3 0 s s 0 0 0 0 true w ht he h8
    rw [show decide ((s.size : Int) ≤ 16) = decide (s.size ≤ 16) from decide_eq_decide.mpr (by omega)] at q
    exact q
  rw [if_neg g3]
  by_cases g5 : K = 5
  · subst g5
    rw [if_pos rfl, hl]
    have IV : ∀ (t : ByteArray) (W : World), t.data.toList = (s.data.toList.drop 1).take (s.size - 2) → Pow W → Errs W → 6 ≤ W.heap.size → Calls Tryz.prog 116 #[.string t] W fun e w' => e = .returned (.bool (ivB ((s.data.toList.drop 1).take (s.size - 2)))) ∧ Below W.heap.size W w' := by
      intro t W e1 q1 q2 q3
      have hlt : t.data.toList.length = t.size := by simp
      rw [e1] at hlt
      simp at hlt
      have q := iv_any t W (by omega) q1 q2 q3
      rw [e1] at q
      exact q
    exact said_5 0 s s 0 0 0 0 _ w IV ht he h8 (h5 rfl) hs
  rw [if_neg g5]
  by_cases g6 : K = 6
  · subst g6
    rw [if_pos rfl]
    exact said_6 0 s _ _ _ _ _ true w (fun W q1 q2 q3 => parse_any s W hs q1 q2 q3) ht he h8
  rw [if_neg g6]
  by_cases g7 : K = 7
  · subst g7
    rw [if_pos rfl]
    have NU : ∀ (t : ByteArray) (W : World), t.data.toList = s.data.toList.drop 1 → Pow W → Errs W → 6 ≤ W.heap.size → Calls Tryz.prog 118 #[.string t] W fun e w' => e = .returned (.tuple #[.agg #[.int .i64 (numB (s.data.toList.drop 1)).1.k, .int .i64 (numB (s.data.toList.drop 1)).1.n, .int .i64 (numB (s.data.toList.drop 1)).1.d, .string (numB (s.data.toList.drop 1)).1.s], .bool (numB (s.data.toList.drop 1)).2]) ∧ Below W.heap.size W w' := by
      intro t W e1 q1 q2 q3
      have hlt : t.data.toList.length = t.size := by simp
      rw [e1] at hlt
      simp at hlt
      have q := lnumber_any t W (by omega) q1 q2 q3
      rw [e1] at q
      exact q
    exact said_7 0 s _ _ _ _ 0 _ w NU ht he h8 (h7 rfl)
  rw [if_neg g7]
  exact said_0 K s s 0 0 0 0 true w ht he h8 (by omega) (by omega) (by omega) (by omega)
end Go.Proofs.YticnfeolbfmgfaaGreatDoor

namespace Go.Proofs.YticnfeolbfmgfaaGreatDoor
open Go.RowKit Go.Shelf
set_option linter.unusedVariables false

end Go.Proofs.YticnfeolbfmgfaaGreatDoor

namespace Go.Proofs.YticnfeolbfmgfaaGreatDoor
open Go.RowKit LX Go.Shelf
set_option linter.unusedVariables false
end Go.Proofs.YticnfeolbfmgfaaGreatDoor

namespace Go.Proofs
open Go.Shelf
def Tryz.grS_ren : Go.Shelf.Ren := ⟨fun | 4 => 226 | n => n, fun | 22 => 22 | 25 => 9 | 3 => 3 | 4 => 4 | 9 => 9 | 20 => 20 | 0 => 0 | n => n, fun | n => n⟩
theorem Tryz.grS : Go.Proofs.Lays8.n4 Tryz.prog Tryz.grS_ren := {
  mixed := by kernel_rfl
  f4 := ⟨Tryz.f226.name, by decide, Tryz.func226.trans (congrArg some (by kernel_rfl))⟩
  t0 := Tryz.underlying0
  a0 := Tryz.isAgg0
  z0 := Tryz.sizeOf0
  v0 := Tryz.zeroValue0
  t3 := Tryz.underlying3
  a3 := Tryz.isAgg3
  z3 := Tryz.sizeOf3
  v3 := Tryz.zeroValue3
  t4 := Tryz.underlying4
  a4 := Tryz.isAgg4
  z4 := Tryz.sizeOf4
  v4 := Tryz.zeroValue4
  t9 := Tryz.underlying9
  a9 := Tryz.isAgg9
  z9 := Tryz.sizeOf9
  v9 := Tryz.zeroValue9
  t20 := Tryz.underlying20
  a20 := Tryz.isAgg20
  z20 := Tryz.sizeOf20
  v20 := Tryz.zeroValue20
  t22 := Tryz.underlying22
  a22 := Tryz.isAgg22
  z22 := Tryz.sizeOf22
  v22 := Tryz.zeroValue22 }
end Go.Proofs

namespace Go.Proofs.YticnfeolbfmgfaaGreatDoor
open Go.RowKit LX Go.Shelf
set_option linter.unusedVariables false

/-- Lists of texts where they lie. -/
def LstsAt (w : World) (A : Value) (us : List Value) (rs : List (List ByteArray)) : Prop := us.length = rs.length ∧ ∃ p c, A = .slice p us.length c ∧ (∀ k (hk : k < us.length), ∃ b off, p = some ⟨b, off, none⟩ ∧ b < w.heap.size ∧ w.cell? ⟨b, off + k, none⟩ = some us[k]) ∧ ∀ k (hk : k < us.length) (ky : k < rs.length), NmsAt w us[k] rs[k]

theorem heap_allocA (w : World) (o : Obj) : (w.alloc o).heap[w.heap.size]? = some o := by
  show (w.heap.push o)[w.heap.size]? = some o
  rw [Array.getElem?_push, if_pos rfl]
theorem growS_any (n : Nat) (w : World) (hn : n ≤ 1000000000) : Calls Tryz.prog 226 #[.slice none 0 0, .int .i64 n] w fun e w' => ∃ v, e = .returned v ∧ OwnN w.heap.size v [] w' ∧ Below w.heap.size w w' := by
  obtain ⟨i0, hi, hz0, hz1, hz2⟩ := info_parts inStA
  by_cases h0 : n = 0
  · subst h0
    refine (Any8.slices_Grow_room Tryz.grS none 0 0 0 w (by omega) (by omega) (by omega) (by omega)).mono ?_
    rintro e w' ⟨rfl, rfl⟩
    exact ⟨_, rfl, World.ownsRow_nil _ _ _ _, Below.refl _ _⟩
  · refine (Any8.slices_Grow_grow Tryz.grS i0 _ hi hz0 (by omega) none 0 0 n [] w (by omega) (by omega) (by rw [hz2]; omega) (by omega) (by simp) (fun _ => rfl) (by intro a h; cases h)).mono ?_
    rintro e w' ⟨rfl, rfl⟩
    refine ⟨_, rfl, ⟨rfl, Or.inr ⟨w.heap.size, _, _, rfl, Nat.le_refl _, heap_allocA _ _, Nat.zero_le _, ?_, ?_, by simp⟩⟩, ((Below.refl _ _).drew).alloc (Nat.le_refl _) _⟩
    · exact grownCap_le_maxLen w _ _ _ (by unfold maxLen; omega)
    · have hG := grownCap_ge w (0 + n) 0 (Tryz.grS_ren.t 25)
      simp only [Nat.zero_add] at hG
      simp [Builtin.zeroCells, Value.cells]
      omega

set_option maxRecDepth 100000 in
set_option maxHeartbeats 2000000 in
theorem concatS_any (A : Value) (us : List Value) (rs : List (List ByteArray)) (w : World) (hA : LstsAt w A us rs) (lt : rs.flatten.length ≤ 1000000000) (lu : us.length ≤ 1000000000) :
    Calls Tryz.prog 197 #[A] w fun e w' => ∃ v, e = .returned v ∧ OwnN w.heap.size v rs.flatten w' ∧ Below w.heap.size w w' := by
  obtain ⟨i0, hi, hz0, hz1, hz2⟩ := info_parts inStA
  obtain ⟨h1, p, c, rfl, HV0, hrs⟩ := hA
  have HV : Hid (∀ k (hk : k < us.length), ∃ b off, p = some ⟨b, off, none⟩ ∧ b < w.heap.size ∧ w.cell? ⟨b, off + k, none⟩ = some us[k]) := HV0
  have HR : Hid (∀ k (hk : k < us.length) (ky : k < rs.length), NmsAt w us[k] rs[k]) := hrs
  have HT : Hid (rs.flatten.length ≤ 1000000000) := lt
  have GR : Hid (∀ (n : Nat) (W : World), n ≤ 1000000000 → Calls Tryz.prog 226 #[.slice none 0 0, .int .i64 n] W fun e w' => ∃ v, e = .returned v ∧ OwnN W.heap.size v [] w' ∧ Below W.heap.size W w') := growS_any
  obtain ⟨n, en⟩ : ∃ n : Nat, Hid (us.length = n) := ⟨_, rfl⟩
  have er : Hid (rs.length = n) := h1.symm.trans en.out
  rw [en.out] at lu ⊢
  clear hrs HV0 lt
  go_enter Tryz.func197, Tryz.ntmps197
  go_wp2
  go_loopw [3, 11] (fun s i wr => ∃ (k T : Nat), k ≤ n ∧ i = .int .i64 k ∧ s = .int .i64 T ∧ Hid (T = (rs.take k).flatten.length) ∧ T ≤ 1000000000 ∧ w = wr) (fun _ i _ => n - (intOf i).toNat)
  case atStart => exact ⟨0, 0, Nat.zero_le _, rfl, rfl, (show 0 = ((rs.take 0).flatten).length by simp), by omega, rfl⟩
  case round =>
    obtain ⟨k, T, hk, rfl, rfl, hT, lT, rfl⟩ := hrel
    by_cases hlt : k < n
    · have kx : k < us.length := by have := en.out; omega
      have ky : k < rs.length := by have := er.out; omega
      obtain ⟨b, off, rfl, hb, q1⟩ := HV.out k kx
      have hx := HR.out k kx ky
      have hT2 : Hid (T + rs[k].length = (rs.take (k + 1)).flatten.length) := by
        show _ = _
        rw [List.take_succ_eq_append_getElem ky, List.flatten_append, List.length_append, ← hT.out]
        simp
      have hT3 : T + rs[k].length ≤ 1000000000 := by
        have h := HT.out
        have h2 : (rs.take (k + 1)).flatten.length ≤ rs.flatten.length := by
          conv => rhs; rw [← List.take_append_drop (k + 1) rs]
          rw [List.flatten_append, List.length_append]
          omega
        have := hT2.out
        omega
      generalize us[k] = u at q1 hx
      obtain ⟨pu, cu, rfl, -⟩ := hx.form
      generalize rs[k].length = nx at q1 hT2 hT3
      clear hx
      go_wp2
      exact ⟨⟨k + 1, T + nx, by omega, by go_num, by go_num, hT2, hT3, by trivial⟩, by simp [intOf]; omega⟩
    · have c2 : ¬ (k : Int) < n := by omega
      have hT2 : Hid (T = rs.flatten.length) := by
        have h := hT.out
        rwa [List.take_of_length_le (by have := er.out; omega)] at h
      go_wp2_with fail
      refine (GR.out T _ lT).mono ?_
      rintro e w1 ⟨v, rfl, ho, hb1⟩
      have HO : Hid (OwnN w.heap.size v [] w1) := ho
      obtain ⟨pv, nv, cv, rfl⟩ : ∃ pv nv cv, v = .slice pv nv cv := by
        obtain ⟨-, ⟨e, -⟩ | ⟨g, cap, cur, e, -⟩⟩ := ho
        · exact ⟨_, _, _, e⟩
        · exact ⟨_, _, _, e⟩
      clear ho
      go_wp2
      go_loopw [6, 27] (fun v i wr => ∃ (k : Nat), k ≤ n ∧ i = .int .i64 k ∧ Hid (OwnN w.heap.size v (rs.take k).flatten wr) ∧ Below w.heap.size w wr) (fun _ i _ => n - (intOf i).toNat)
      case atStart => exact ⟨0, Nat.zero_le _, rfl, HO, hb1⟩
      case round =>
        obtain ⟨k2, hk2, rfl, HO2, hB2⟩ := hrel
        by_cases hlt2 : k2 < n
        · have kx : k2 < us.length := by have := en.out; omega
          have ky : k2 < rs.length := by have := er.out; omega
          obtain ⟨b, off, rfl, hb, q1⟩ := HV.out k2 kx
          have q2 : wr.cell? ⟨b, off + k2, none⟩ = some us[k2] := (hB2.cell (p := ⟨b, _, none⟩) hb).trans q1
          have hx := (HR.out k2 kx ky).below hB2
          have hF : Hid ((rs.take (k2 + 1)).flatten = (rs.take k2).flatten ++ rs[k2]) := by
            show _ = _
            rw [List.take_succ_eq_append_getElem ky, List.flatten_append]
            simp
          have hT3 : ((rs.take k2).flatten).length + rs[k2].length ≤ 1000000000 := by
            have h := HT.out
            have h2 : (rs.take (k2 + 1)).flatten.length ≤ rs.flatten.length := by
              conv => rhs; rw [← List.take_append_drop (k2 + 1) rs]
              rw [List.flatten_append, List.length_append]
              omega
            rw [hF.out, List.length_append] at h2
            omega
          clear q1
          generalize us[k2] = u at q2 hx
          generalize rs[k2] = x at hx hF hT3
          obtain ⟨F, eF⟩ : ∃ F, Hid ((rs.take k2).flatten = F) := ⟨_, rfl⟩
          rw [eF.out] at HO2 hF hT3
          have HX : Hid (SrcA wr 1 u x.length (x.map Value.string)) := srcA_nms hx
          obtain ⟨pu, cu, rfl, -⟩ := hx.form
          have hK := hB2.size
          have HK : Hid (∀ q, u6.ownBlock = some q → w.heap.size ≤ q) := fun q hq => (World.ownsRow.lt HO2.out q hq).1
          clear hx
          go_wp2_with (at_builtin; refine wpList_append_srcA rfl (.tmp 31) (.tmp 32) 22 rfl w.heap.size 9 i0 _ 1 16 Tryz.underlying22 hi hz0 hz1 hz2 rfl (by decide) _ _ _ rfl HO2.out _ x.length (x.map Value.string) rfl HX.out (by intro u hu; obtain ⟨y, -, rfl⟩ := List.mem_map.1 hu; rfl) (by unfold maxLen; omega) (by omega) hK ?grow)
          case grow =>
            intro v' w3 h2 h3 _
            have O3 : Hid (OwnN w.heap.size v' (rs.take (k2 + 1)).flatten w3) := by
              show OwnN _ _ _ _
              rw [hF.out]
              unfold OwnN
              rw [List.length_append, List.map_append]
              exact h2
            have B3 : Below w.heap.size w w3 := hB2.grown h3 hK HK.out
            clear h2 h3 HX HO2 HK
            go_wp2
            exact ⟨⟨k2 + 1, by omega, by go_num, O3, B3⟩, by simp [intOf]; omega⟩
        · have c3 : ¬ (k2 : Int) < n := by omega
          have O3 : Hid (OwnN w.heap.size u6 rs.flatten wr) := by
            have h := HO2.out
            rwa [List.take_of_length_le (by have := er.out; omega)] at h
          go_wp2
          go_ret
          exact ⟨_, rfl, O3.out, hB2⟩

end Go.Proofs.YticnfeolbfmgfaaGreatDoor



namespace Go.Proofs.YticnfeolbfmgfaaGreatDoor
open Go.RowKit LX Go.Shelf Go.Sort
set_option linter.unusedVariables false

/-- Texts as lists of bytes, and back. -/
def bts (l : List ByteArray) : List (List UInt8) := l.map (·.data.toList)
def unb (l : List (List UInt8)) : List ByteArray := l.map fun x => ⟨x.toArray⟩
theorem unb_str (l : List (List UInt8)) : (unb l).map Value.string = l.map encStr := by
  unfold unb
  rw [List.map_map]
  rfl
theorem bts_str (l : List ByteArray) : (bts l).map encStr = l.map Value.string := Lib.map_encStr l
/-- Sorted; rid of twins side by side. -/
def srtN (l : List ByteArray) : List ByteArray := unb ((bts l).mergeSort fun x y => decide (x ≤ y))
def cmpN (l : List ByteArray) : List ByteArray := unb (Lib.compact (bts l))

theorem sortS_any (B : Nat) (v : Value) (L : List ByteArray) (w : World) (hB : B ≤ w.heap.size) (h : OwnN B v L w) (hl : L.length < 4611686018427387904) :
    Calls Tryz.prog 198 #[v] w fun e w' => e = .returned (.tuple #[]) ∧ OwnN B v (srtN L) w' ∧ Below B w w' := by
  by_cases hv : v = .slice none 0 0
  · subst hv
    have hL : L = [] := by
      obtain ⟨p, c, e, -⟩ := h.cap
      injection e with e1 e2 e3
      exact List.length_eq_zero_iff.1 e2.symm
    subst hL
    refine (Any.slices_Sort_string_none Tryz.lays190 none 0 w).mono ?_
    rintro e w' ⟨rfl, rfl⟩
    have e0 : srtN [] = [] := by simp [srtN, bts, unb]
    rw [e0]
    exact ⟨rfl, h, Below.refl _ _⟩
  · have h0 : w.ownsRow B 9 1 v L.length ((bts L).map encStr) := by rw [bts_str]; exact h
    obtain ⟨g, cap, rfl, hg, hlt, hn, hm, hz, hH⟩ := Lib.holds_of_ownsRow h0 hv
    have hc := Any.slices_Sort_string Tryz.lays190 g 0 cap (bts L) w hH hlt (by omega)
    rw [hz] at hc
    refine hc.mono ?_
    rintro e w' ⟨rfl, n, os, rfl⟩
    have hk := Lib.ownsRow_putRow (q := n) (ys := (bts L).mergeSort fun x y => decide (x ≤ y)) (k := L.length) h0 (by rw [List.length_mergeSort]; exact hz) (Nat.le_refl _)
    rw [List.take_of_length_le (by rw [List.length_mergeSort]; omega)] at hk
    have hl2 : (srtN L).length = L.length := by unfold srtN unb; rw [List.length_map, List.length_mergeSort]; exact hz
    have hgb : ∀ (W : World), W.grownBy (grow W os) none := fun W => ⟨rfl, rfl, rfl, by simp, fun k hk _ => heap_grow_old W os hk⟩
    refine ⟨rfl, ?_, ?_⟩
    · show World.ownsRow _ _ _ _ _ _ _
      rw [hl2]
      unfold srtN
      rw [unb_str]
      exact World.ownsRow.kept hk (hgb _) (Or.inr (by intro h; cases h))
    · have hb1 : Below B w (putRow encStr (Sort.ahead w n) g 0 ((bts L).mergeSort fun x y => decide (x ≤ y)).toArray) := Lib.below_putRow (Below.refl _ _) hg
      exact hb1.grown (hgb _) (Nat.le_trans hB hb1.size) (fun k hk => by cases hk)

theorem compactS_any (B : Nat) (v : Value) (L : List ByteArray) (w : World) (h : OwnN B v L w) (hl : L.length ≤ 9223372036854775807) :
    Calls Tryz.prog 199 #[v] w fun e w' => ∃ v', e = .returned v' ∧ OwnN B v' (cmpN L) w' ∧ Below B w w' := by
  by_cases hv : v = .slice none 0 0
  · subst hv
    have hL : L = [] := by
      obtain ⟨p, c, e, -⟩ := h.cap
      injection e with e1 e2 e3
      exact List.length_eq_zero_iff.1 e2.symm
    subst hL
    refine (Tryz.slices_Compact_string_empty none 0 w).mono ?_
    rintro e w' ⟨rfl, rfl⟩
    have e0 : cmpN [] = [] := by rfl
    rw [e0]
    exact ⟨_, rfl, h, Below.refl _ _⟩
  · have h0 : w.ownsRow B 9 1 v L.length ((bts L).map encStr) := by rw [bts_str]; exact h
    obtain ⟨g, cap, rfl, hg, hlt, hn, hm, hz, hH⟩ := Lib.holds_of_ownsRow h0 hv
    have hc := Tryz.slices_Compact_string g 0 cap (bts L) w hH (by omega) (by omega)
    rw [hz] at hc
    refine hc.mono ?_
    rintro e w' ⟨rfl, q, rfl⟩
    have hle := Lib.compact_length_le (bts L)
    have hk := Lib.ownsRow_putRow (q := q) (ys := Lib.compact (bts L) ++ List.replicate (L.length - (Lib.compact (bts L)).length) []) (k := (Lib.compact (bts L)).length) h0 (by rw [List.length_append, List.length_replicate]; omega) (by omega)
    rw [List.take_left' rfl] at hk
    have hl2 : (cmpN L).length = (Lib.compact (bts L)).length := by unfold cmpN unb; rw [List.length_map]
    refine ⟨_, rfl, ?_, Lib.below_putRow (Below.refl _ _) hg⟩
    show World.ownsRow _ _ _ _ _ _ _
    rw [hl2]
    unfold cmpN
    rw [unb_str]
    exact hk

theorem srtN_len (L : List ByteArray) : (srtN L).length = L.length := by unfold srtN unb bts; rw [List.length_map, List.length_mergeSort, List.length_map]
/-- What union tells. -/
def uniN (rs : List (List ByteArray)) : List ByteArray := cmpN (srtN rs.flatten)
theorem union_any (A : Value) (us : List Value) (rs : List (List ByteArray)) (w : World) (hA : LstsAt w A us rs) (lt : rs.flatten.length ≤ 1000000000) (lu : us.length ≤ 1000000000) :
    Calls Tryz.prog 168 #[A] w fun e w' => ∃ v, e = .returned v ∧ OwnN w.heap.size v (uniN rs) w' ∧ Below w.heap.size w w' := by
  have cC : Hid (Calls Tryz.prog 197 #[A] w fun e w' => ∃ v, e = .returned v ∧ OwnN w.heap.size v rs.flatten w' ∧ Below w.heap.size w w') := concatS_any A us rs w hA lt lu
  obtain ⟨-, p, c, rfl, -⟩ := hA
  generalize us.length = n at *
  obtain ⟨F, eF⟩ : ∃ F, Hid (rs.flatten = F) := ⟨_, rfl⟩
  have eU : Hid (uniN rs = cmpN (srtN F)) := by unfold Hid uniN; rw [eF.out]
  rw [eU.out]
  rw [eF.out] at cC lt
  go_enter Tryz.func168, Tryz.ntmps168
  go_wp2_with fail
  refine cC.out.mono ?_
  rintro r w1 ⟨v, rfl, hO, hB⟩
  have HO : Hid (OwnN w.heap.size v F w1) := hO
  clear cC hO
  go_wp2_with fail
  refine (sortS_any w.heap.size v F w1 hB.size HO.out (by omega)).mono ?_
  rintro r w2 ⟨rfl, hO2, hb2⟩
  have HO2 : Hid (OwnN w.heap.size v (srtN F) w2) := hO2
  have hB2 : Below w.heap.size w w2 := hB.trans hb2
  clear HO hO2 hb2
  go_wp2_with fail
  refine (compactS_any w.heap.size v (srtN F) w2 HO2.out (by rw [srtN_len]; omega)).mono ?_
  rintro r w3 ⟨v3, rfl, hO3, hb3⟩
  have hB3 : Below w.heap.size w w3 := hB2.trans hb3
  have HO3 : Hid (OwnN w.heap.size v3 (cmpN (srtN F)) w3) := hO3
  clear hO3 hb3 HO2
  go_wp2
  go_ret
  exact ⟨_, rfl, HO3.out, hB3⟩

end Go.Proofs.YticnfeolbfmgfaaGreatDoor

namespace Go.Proofs.YticnfeolbfmgfaaGreatDoor
open Go.RowKit LX Go.Shelf
set_option linter.unusedVariables false

section
mutual
/-- The variables of a term. -/
def tvs : Tm → List ByteArray
  | .mk k nm v subs => (if k = 1 then [nm] else []) ++ tvss subs
def tvss : List Tm → List ByteArray
  | [] => []
  | t :: l => tvs t ++ tvss l
end
end
theorem tvs_eq (t : Tm) : tvs t = (if t.k = 1 then [t.nm] else []) ++ tvss t.subs := by
  cases t
  rw [tvs]
  rfl
theorem tvss_nil : tvss [] = [] := by rw [tvss]
theorem tvss_cons (t : Tm) (l : List Tm) : tvss (t :: l) = tvs t ++ tvss l := by rw [tvss]

set_option maxRecDepth 100000 in
set_option maxHeartbeats 8000000 in
theorem gathered_any (w0 : World) (B : Nat) (hB0 : w0.heap.size ≤ B) : ∀ (m : Nat) (ts : List Tm) (V U : Value) (L : List ByteArray) (w : World), SizeOf.sizeOf ts ≤ m → TmsAt w0 V ts → Below w0.heap.size w0 w → B ≤ w.heap.size → OwnN B U L w → (L ++ tvss ts).length ≤ 1000000000 →
    Calls Tryz.prog 169 #[U, V] w fun e w' => ∃ v, e = .returned v ∧ OwnN B v (L ++ tvss ts) w' ∧ Below B w w' := by
  obtain ⟨i0, hi, hz0, hz1, hz2⟩ := info_parts inStA
  intro m
  induction m with
  | zero => intro ts V U L w hm; cases ts <;> simp at hm
  | succ m ih =>
    intro ts V U L w hm hV hw hBw hU hlen
    obtain ⟨p, c, rfl, hl, hc, HX0⟩ := hV.form
    have HX : Hid (∀ i (hi : i < ts.length), ∃ b off u, p = some ⟨b, off, none⟩ ∧ b < w0.heap.size ∧ TmC w0 b (off + i * 7) ts[i] u ∧ TmsAt w0 u ts[i].subs ∧ ts[i].v.Fits) := HX0
    have IH : Hid (∀ (ts : List Tm) (V U : Value) (L : List ByteArray) (w : World), SizeOf.sizeOf ts ≤ m → TmsAt w0 V ts → Below w0.heap.size w0 w → B ≤ w.heap.size → OwnN B U L w → (L ++ tvss ts).length ≤ 1000000000 →
      Calls Tryz.prog 169 #[U, V] w fun e w' => ∃ v, e = .returned v ∧ OwnN B v (L ++ tvss ts) w' ∧ Below B w w') := ih
    have HU : Hid (OwnN B U L w) := hU
    have HM : Hid (SizeOf.sizeOf ts ≤ m + 1) := hm
    obtain ⟨R, eR⟩ : ∃ R : List ByteArray, Hid (L ++ tvss ts = R) := ⟨_, rfl⟩
    rw [eR.out] at hlen ⊢
    clear hV HX0 ih hU hm
    obtain ⟨n, en⟩ : ∃ n : Nat, Hid (ts.length = n) := ⟨_, rfl⟩
    rw [en.out] at hl hc ⊢
    go_enter Tryz.func169, Tryz.ntmps169
    go_wp2
    go_loopw [0, 9] (fun v0 v wr => ∃ (k : Nat) (M : List ByteArray), k ≤ n ∧ v = .int .i64 k ∧ Hid (R = M ++ tvss (ts.drop k)) ∧ Below B w wr ∧ Hid (OwnN B v0 M wr)) (fun _ v _ => n - (intOf v).toNat)
    case atStart => exact ⟨0, L, Nat.zero_le _, rfl, by rw [List.drop_zero]; exact eR.out.symm, Below.refl _ _, HU⟩
    case round =>
      obtain ⟨k, M, hk, rfl, hr, hB, hO⟩ := hrel
      have hsz := hB.size
      have HK : Hid (∀ q, u0.ownBlock = some q → B ≤ q ∧ q < wr.heap.size) := fun q hq => World.ownsRow.lt hO.out q hq
      by_cases hlt : k < n
      case neg =>
        have c2 : ¬ (k : Int) < n := by omega
        have hr2 : Hid (R = M) := by
          have h := hr.out
          rw [List.drop_eq_nil_of_le (by have := en.out; omega), tvss_nil, List.append_nil] at h
          exact h
        go_wp2
        go_ret
        rw [hr2.out]
        exact ⟨_, rfl, hO.out, hB⟩
      have hlt' : (k : Int) < n := by omega
      have kx : k < ts.length := by have := en.out; omega
      obtain ⟨b, off, u, rfl, hb, TC, TS, TF⟩ := HX.out k kx
      have hBr : Below w0.heap.size w0 wr := hw.trans (hB.mono hB0)
      obtain ⟨a0, a1, a2, a3, a4, a5, a6⟩ := TC.below hBr hb
      have hr2 : Hid (R = M ++ ((if ts[k].k = 1 then [ts[k].nm] else []) ++ tvss ts[k].subs) ++ tvss (ts.drop (k + 1))) := by
        have h := hr.out
        rw [List.drop_eq_getElem_cons kx, tvss_cons, tvs_eq] at h
        exact h.trans (List.append_assoc _ _ _).symm
      have hsz2 : SizeOf.sizeOf ts[k].subs ≤ m := by
        have h1 := mem_lt k kx
        have h2 := ts[k].subs_lt
        have h3 := HM.out
        omega
      clear TC hr TF
      generalize ts[k] = t at *
      obtain ⟨pu, cu, rfl, -⟩ := TS.form
      obtain ⟨SV, hSV⟩ : ∃ SV : List ByteArray, Hid (tvss t.subs = SV) := ⟨_, rfl⟩
      have cR : Hid (∀ (W : World) (U : Value) (M : List ByteArray), Below w0.heap.size w0 W → B ≤ W.heap.size → OwnN B U M W → (M ++ SV).length ≤ 1000000000 → Calls Tryz.prog 169 #[U, .slice pu t.subs.length cu] W fun e w' => ∃ v, e = .returned v ∧ OwnN B v (M ++ SV) w' ∧ Below B W w') := fun W U M h1 h2 h3 h4 => by
        have h := IH.out t.subs _ U M W hsz2 TS h1 h2 h3 (by rw [hSV.out]; exact h4)
        rw [hSV.out] at h
        exact h
      rw [hSV.out] at hr2
      clear TS hsz2 hSV
      generalize t.subs.length = nu at *
      generalize t.v.k = vk at *
      generalize t.v.n = vn at *
      generalize t.v.d = vd at *
      generalize t.v.s = vs at *
      generalize t.k = tk at *
      generalize t.nm = nm at *
      have hBB : B ≤ wr.heap.size := by omega
      by_cases h1 : tk = 1
      · subst h1
        have hr3 : Hid (R = (M ++ [nm]) ++ SV ++ tvss (ts.drop (k + 1))) := by
          have h := hr2.out
          rw [if_pos rfl, ← List.append_assoc] at h
          exact h
        have hlM : M.length + 1 ≤ 1000000000 := by
          have h := congrArg List.length hr3.out
          simp at h
          omega
        have hlS : (M ++ [nm] ++ SV).length ≤ 1000000000 := by
          have h := congrArg List.length hr3.out
          rw [List.length_append] at h
          omega
        clear hr2
        go_wp2_with (at_builtin; refine wpList_append_own _ rfl _ _ 22 rfl B 9 i0 (.string ByteArray.empty) 1 16 Tryz.underlying22 hi hz0 hz1 hz2 rfl (by decide) _ _ _ rfl (World.ownsRow.alloc (World.ownsRow.alloc hO.out _) _) ⟨wr.heap.size + 1, 0, none⟩ 1 1 [.string nm] rfl rfl ?cc1 ?cc2 ?cc3 ?cc4 ?cc5 ?_)
        case cc1 => (intro j u hj; rw [Addr.add_lit]; (rcases j with _ | j) <;> simp at hj <;> subst hj <;> simp (maxDischargeDepth := 12) [go_sem])
        case cc2 => (intro u hu; simp at hu; subst hu; rfl)
        case cc3 => unfold maxLen; omega
        case cc4 => omega
        case cc5 => first | omega | (simp; omega)
        intro v' w3 h2 h3 _
        have O3 : Hid (OwnN B v' (M ++ [nm]) w3) := by
          show w3.ownsRow _ _ _ _ _ _
          rw [List.length_append, List.map_append]
          exact h2
        have B3 : Below B w w3 := Below.grown ((hB.alloc hBB _).alloc (by simp; omega) _) h3 (by simp; omega) (fun q hq => (HK.out q hq).1)
        have e6 : w3.cell? ⟨wr.heap.size, 6, none⟩ = some (.slice pu nu cu) := by
          refine (World.cell?_of_block (h3.block wr.heap.size (by simp; omega) (fun e => ?_))).trans (by simp [go_sem])
          have := (HK.out _ e.symm).2
          omega
        clear h2 h3 HK hO
        have hw3 : Below w0.heap.size w0 w3 := hw.trans (B3.mono hB0)
        go_wp2_with fail
        refine (cR.out _ _ _ hw3 (by have := B3.size; omega) O3.out hlS).mono ?_
        rintro r w4 ⟨v4, rfl, h4, hb4⟩
        have O4 : Hid (OwnN B v4 (M ++ [nm] ++ SV) w4) := h4
        have B4 : Below B w w4 := B3.trans hb4
        clear h4 hb4 e6 O3 B3
        go_wp2
        exact ⟨⟨k + 1, _, by omega, by go_num, hr3, B4, O4⟩, by simp [intOf]; omega⟩
      · have hr3 : Hid (R = M ++ SV ++ tvss (ts.drop (k + 1))) := by
          have h := hr2.out
          rw [if_neg h1, List.nil_append] at h
          exact h
        have hlS : (M ++ SV).length ≤ 1000000000 := by
          have h := congrArg List.length hr3.out
          rw [List.length_append] at h
          omega
        clear hr2
        have O3 : ∀ o, OwnN B u0 M (wr.alloc o) := fun o => World.ownsRow.alloc hO.out o
        go_wp2_with fail
        refine (cR.out _ _ _ (hBr.trans ((Below.refl _ _).alloc hBr.size _)) (by simp; omega) (O3 _) hlS).mono ?_
        rintro r w4 ⟨v4, rfl, h4, hb4⟩
        have O4 : Hid (OwnN B v4 (M ++ SV) w4) := h4
        have B4 : Below B w w4 := (hB.alloc hBB _).trans hb4
        clear h4 hb4 O3
        go_wp2
        exact ⟨⟨k + 1, _, by omega, by go_num, hr3, B4, O4⟩, by simp [intOf]; omega⟩

end Go.Proofs.YticnfeolbfmgfaaGreatDoor

namespace Go.Proofs.YticnfeolbfmgfaaGreatDoor
open Go.RowKit LX Go.Shelf
set_option linter.unusedVariables false

theorem uniN_len (rs : List (List ByteArray)) : (uniN rs).length ≤ rs.flatten.length := by
  unfold uniN cmpN
  unfold unb
  rw [List.length_map]
  refine Nat.le_trans (Lib.compact_length_le _) ?_
  unfold bts
  rw [List.length_map, srtN_len]
  exact Nat.le_refl _
end Go.Proofs.YticnfeolbfmgfaaGreatDoor

namespace Go.Proofs.YticnfeolbfmgfaaGreatDoor
open Go.RowKit LX Go.Shelf
set_option linter.unusedVariables false

section
mutual
/-- What a regex tests. -/
def rts : Rx → List Fm
  | .mk k test subs => test ++ rtss subs
def rtss : List Rx → List Fm
  | [] => []
  | r :: l => rts r ++ rtss l
end
end
theorem rts_eq (r : Rx) : rts r = r.test ++ rtss r.subs := by
  cases r
  rw [rts]
  rfl
theorem rtss_nil : rtss [] = [] := by rw [rtss]
theorem rtss_cons (r : Rx) (l : List Rx) : rtss (r :: l) = rts r ++ rtss l := by rw [rtss]

set_option maxRecDepth 100000 in
set_option maxHeartbeats 8000000 in
theorem tests_any (w0 : World) : ∀ (m : Nat) (rs : List Rx) (V : Value) (w : World), SizeOf.sizeOf rs ≤ m → RxsAt w0 V rs → Below w0.heap.size w0 w → (rtss rs).length ≤ 1000000000 →
    Calls Tryz.prog 166 #[V] w fun e w' => ∃ v, e = .returned v ∧ OwnF w0 w.heap.size v (rtss rs) w' ∧ Below w.heap.size w w' := by
  obtain ⟨i0, hi, hz0, hz1, hz2⟩ := info_parts inFA
  intro m
  induction m with
  | zero => intro rs V w hm; cases rs <;> simp at hm
  | succ m ih =>
    intro rs V w hm hV hw hlen
    obtain ⟨p, c, rfl, hl, hc, HX0⟩ := hV.form
    have HX : Hid (∀ i (hi : i < rs.length), ∃ b off ut us, p = some ⟨b, off, none⟩ ∧ b < w0.heap.size ∧ RxC w0 b (off + i * 3) rs[i] ut us ∧ FmsAt w0 ut rs[i].test ∧ RxsAt w0 us rs[i].subs) := HX0
    have IH : Hid (∀ (rs : List Rx) (V : Value) (w : World), SizeOf.sizeOf rs ≤ m → RxsAt w0 V rs → Below w0.heap.size w0 w → (rtss rs).length ≤ 1000000000 → Calls Tryz.prog 166 #[V] w fun e w' => ∃ v, e = .returned v ∧ OwnF w0 w.heap.size v (rtss rs) w' ∧ Below w.heap.size w w') := ih
    have HM : Hid (SizeOf.sizeOf rs ≤ m + 1) := hm
    have hw0 := hw.size
    obtain ⟨R, eR⟩ : ∃ R : List Fm, Hid (rtss rs = R) := ⟨_, rfl⟩
    rw [eR.out] at hlen ⊢
    clear hV HX0 ih hm
    obtain ⟨n, en⟩ : ∃ n : Nat, Hid (rs.length = n) := ⟨_, rfl⟩
    rw [en.out] at hl hc ⊢
    go_enter Tryz.func166, Tryz.ntmps166
    go_wp2
    go_loopw [3, 8] (fun v0 v wr => ∃ (k : Nat) (M : List Fm), k ≤ n ∧ v = .int .i64 k ∧ Hid (R = M ++ rtss (rs.drop k)) ∧ Below w.heap.size w wr ∧ Hid (OwnF w0 w.heap.size v0 M wr)) (fun _ v _ => n - (intOf v).toNat)
    case atStart => exact ⟨0, [], Nat.zero_le _, rfl, by rw [List.drop_zero]; exact eR.out.symm, Below.refl _ _, OwnF.nil _ _ _⟩
    case round =>
      obtain ⟨k, M, hk, rfl, hr, hB, hO⟩ := hrel
      have hsz := hB.size
      by_cases hlt : k < n
      case neg =>
        have c2 : ¬ (k : Int) < n := by omega
        have hr2 : Hid (R = M) := by
          have h := hr.out
          rw [List.drop_eq_nil_of_le (by have := en.out; omega), rtss_nil, List.append_nil] at h
          exact h
        go_wp2
        go_ret
        rw [hr2.out]
        exact ⟨_, rfl, hO.out, hB⟩
      have hlt' : (k : Int) < n := by omega
      have kx : k < rs.length := by have := en.out; omega
      obtain ⟨b, off, ut, us, rfl, hb, TC, NT, NS⟩ := HX.out k kx
      have hBr : Below w0.heap.size w0 wr := hw.trans (hB.mono hw0)
      obtain ⟨a0, a1, a2⟩ := TC.below hBr hb
      have hr2 : Hid (R = (M ++ rs[k].test) ++ rtss rs[k].subs ++ rtss (rs.drop (k + 1))) := by
        have h := hr.out
        rw [List.drop_eq_getElem_cons kx, rtss_cons, rts_eq] at h
        unfold Hid
        rw [h]
        simp [List.append_assoc]
      have hsz2 : SizeOf.sizeOf rs[k].subs ≤ m := by
        have h1 := mem_lt k kx
        have h2 := rs[k].subs_lt
        have h3 := HM.out
        omega
      clear TC hr
      generalize rs[k] = r at *
      obtain ⟨qs, q1, q2, q3⟩ := srcF NT
      have HQ : Hid (∀ W, Below w0.heap.size w0 W → SrcA W 10 ut r.test.length (flatF qs)) := q3
      have HQ2 : Hid (∀ x ∈ qs, QAt w0 x) := q2
      have HQ1 : Hid (qs.map Prod.fst = r.test) := q1
      obtain ⟨pt, ct, rfl, -⟩ := NT.form
      obtain ⟨pu, cu, rfl, -⟩ := NS.form
      obtain ⟨SV, hSV⟩ : ∃ SV : List Fm, Hid (rtss r.subs = SV) := ⟨_, rfl⟩
      rw [hSV.out] at hr2
      have hlA : ((M ++ r.test) ++ SV).length ≤ 1000000000 := by
        have h := congrArg List.length hr2.out
        rw [List.length_append] at h
        omega
      have hlS : SV.length ≤ 1000000000 := by rw [List.length_append] at hlA; omega
      have hlM : M.length + r.test.length ≤ 1000000000 := by rw [List.length_append, List.length_append] at hlA; omega
      have hlT : (M ++ r.test).length + SV.length ≤ 1000000000 := by rw [List.length_append] at hlA; omega
      have cR : Hid (∀ W : World, Below w0.heap.size w0 W → Calls Tryz.prog 166 #[.slice pu r.subs.length cu] W fun e w' => ∃ v, e = .returned v ∧ OwnF w0 W.heap.size v SV w' ∧ Below W.heap.size W w') := fun W h1 => by
        have h := IH.out r.subs _ W hsz2 NS h1 (by rw [hSV.out]; exact hlS)
        rw [hSV.out] at h
        exact h
      clear NT NS hsz2 hSV q1 q2 q3 hlA hlS
      obtain ⟨ps, p1, p2, p3⟩ := hO.out
      have HK : Hid (∀ q, u3.ownBlock = some q → w.heap.size ≤ q ∧ q < wr.heap.size) := fun q hq => World.ownsRow.lt p3 q hq
      have HP3 : Hid (wr.ownsRow w.heap.size 29 10 u3 M.length (flatF ps)) := p3
      have HP2 : Hid (∀ x ∈ ps, QAt w0 x) := p2
      have HP1 : Hid (ps.map Prod.fst = M) := p1
      clear p1 p2 p3 hO
      generalize eT : r.test = TL at *
      generalize r.subs.length = nu at *
      generalize r.k = rk at *
      have hBB : w0.heap.size ≤ wr.heap.size := hBr.size
      go_wp2_with (at_builtin; refine wpList_append_srcA rfl _ _ 26 rfl w.heap.size 29 i0 (.agg #[.int .i64 0, .string ByteArray.empty, .int .i64 0, .slice none 0 0, .slice none 0 0, .int .i64 0, .int .i64 0, .bool false, .slice none 0 0, .slice none 0 0]) 10 152 Tryz.underlying26 hi hz0 hz1 hz2 rfl (by decide) _ _ _ rfl (World.ownsRow.alloc HP3.out _) _ TL.length (flatF qs) rfl (HQ.out _ (hBr.alloc hBB _)) (flatF_one HQ2.out) ?cc3 ?cc4 ?cc5 ?_)
      case cc3 => unfold maxLen; omega
      case cc4 => omega
      case cc5 => first | omega | (simp; omega)
      intro v' w3 h2 h3 _
      have O3 : Hid (OwnF w0 w.heap.size v' (M ++ TL) w3) := OwnF.app HP1.out HP2.out HQ1.out HQ2.out h2
      have B3 : Below w.heap.size w w3 := Below.grown (hB.alloc hsz _) h3 (by simp; omega) (fun q hq => (HK.out q hq).1)
      have e2 : w3.cell? ⟨wr.heap.size, 2, none⟩ = some (.slice pu nu cu) := by
        refine (World.cell?_of_block (h3.block wr.heap.size (by simp) (fun e => ?_))).trans (by simp [go_sem])
        have := (HK.out _ e.symm).2
        omega
      clear h2 h3 HK HP1 HP2 HP3 HQ HQ1 HQ2 a0 a1 a2 eT
      have hw3 : Below w0.heap.size w0 w3 := hw.trans (B3.mono hw0)
      have hz3 := B3.size
      go_wp2_with fail
      refine (cR.out _ hw3).mono ?_
      rintro r w4 ⟨v4, rfl, h4, hb4⟩
      have B4 : Below w.heap.size w w4 := B3.trans (hb4.mono hz3)
      have hz4 := B4.size
      obtain ⟨ps, p1, p2, p3⟩ := O3.out.bel hb4
      obtain ⟨qs, q1, q2, q3⟩ := h4.src
      have HK : Hid (∀ q, v'.ownBlock = some q → w.heap.size ≤ q ∧ q < w4.heap.size) := fun q hq => World.ownsRow.lt p3 q hq
      have HP3 : Hid (w4.ownsRow w.heap.size 29 10 v' (M ++ TL).length (flatF ps)) := p3
      have HP2 : Hid (∀ x ∈ ps, QAt w0 x) := p2
      have HP1 : Hid (ps.map Prod.fst = M ++ TL) := p1
      have HQ : Hid (SrcA w4 10 v4 SV.length (flatF qs)) := q3
      have HQ2 : Hid (∀ x ∈ qs, QAt w0 x) := q2
      have HQ1 : Hid (qs.map Prod.fst = SV) := q1
      clear p1 p2 p3 q1 q2 q3 O3 B3 hb4 h4 e2 cR
      generalize M ++ TL = MT at *
      go_wp2_with (at_builtin; refine wpList_append_srcA rfl _ _ 26 rfl w.heap.size 29 i0 (.agg #[.int .i64 0, .string ByteArray.empty, .int .i64 0, .slice none 0 0, .slice none 0 0, .int .i64 0, .int .i64 0, .bool false, .slice none 0 0, .slice none 0 0]) 10 152 Tryz.underlying26 hi hz0 hz1 hz2 rfl (by decide) _ _ _ rfl HP3.out _ SV.length (flatF qs) rfl HQ.out (flatF_one HQ2.out) ?cc3 ?cc4 ?cc5 ?_)
      case cc3 => unfold maxLen; omega
      case cc4 => omega
      case cc5 => first | omega | (simp; omega)
      intro v5 w5 h2 h3 _
      have O5 : Hid (OwnF w0 w.heap.size v5 (MT ++ SV) w5) := OwnF.app HP1.out HP2.out HQ1.out HQ2.out h2
      have B5 : Below w.heap.size w w5 := Below.grown B4 h3 (by omega) (fun q hq => (HK.out q hq).1)
      clear h2 h3 HK HP1 HP2 HP3 HQ HQ1 HQ2
      go_wp2
      exact ⟨⟨k + 1, _, by omega, by go_num, hr2, B5, O5⟩, by simp [intOf]; omega⟩

/-- The parts of a formula: what its regexes test, or what stands within. -/
def ptsF (f : Fm) : List Fm := if f.rgx = [] then f.subs else rtss f.rgx

set_option maxRecDepth 100000 in
set_option maxHeartbeats 4000000 in
theorem parts_any (w0 : World) (f : Fm) (q : FQ) (hq : QAt w0 (f, q)) (w : World) (hw : Below w0.heap.size w0 w) (hl : (rtss f.rgx).length ≤ 1000000000) :
    Calls Tryz.prog 126 #[.agg #[.int .i64 f.k, .string f.nm, .int .i64 f.op, q.v, q.t, .int .i64 f.lo, .int .i64 f.hi, .bool f.opn, q.s, q.r]] w fun e w' => ∃ v, e = .returned v ∧ FmsAt w' v (ptsF f) ∧ Below w.heap.size w w' := by
  obtain ⟨uv, ut, us, ur⟩ := q
  obtain ⟨h1, h2, h3, h4⟩ := hq
  dsimp only at h1 h2 h3 h4 ⊢
  have HS : Hid (FmsAt w us f.subs) := h3.bel hw
  have cT : Hid (∀ W : World, Below w0.heap.size w0 W → Calls Tryz.prog 166 #[ur] W fun e w' => ∃ v, e = .returned v ∧ OwnF w0 W.heap.size v (rtss f.rgx) w' ∧ Below W.heap.size W w') := fun W hW => tests_any w0 _ f.rgx ur W (Nat.le_refl _) h4 hW hl
  obtain ⟨-, pv, cv, rfl, -, -⟩ := h1
  obtain ⟨pt, ct, rfl, -⟩ := h2.form
  obtain ⟨ps, cs, rfl, -⟩ := h3.form
  obtain ⟨pr, cr, rfl, lr, -⟩ := h4.form
  clear h2 h3 h4
  have hw0 := hw.size
  by_cases he : f.rgx = []
  · have e1 : Hid (ptsF f = f.subs) := if_pos he
    have e2 : f.rgx.length = 0 := by rw [he]; rfl
    rw [e1.out, e2]
    clear cT
    go_enter Tryz.func126, Tryz.ntmps126
    go_wp2
    go_ret
    exact ⟨_, rfl, HS.out.bel ((Below.refl _ _).alloc (Nat.le_refl _) _), (Below.refl _ _).alloc (Nat.le_refl _) _⟩
  · have e1 : Hid (ptsF f = rtss f.rgx) := if_neg he
    have e2 : 0 < f.rgx.length := List.length_pos_iff.2 he
    rw [e1.out]
    obtain ⟨n, en⟩ : ∃ n : Nat, f.rgx.length = n := ⟨_, rfl⟩
    rw [en] at e2 cT lr ⊢
    have e3 : (0 : Int) < n := by omega
    go_enter Tryz.func126, Tryz.ntmps126
    go_wp2_with fail
    refine (cT.out _ (hw.trans ((Below.refl _ _).alloc hw0 _))).mono ?_
    rintro r w2 ⟨v, rfl, hO, hb⟩
    have hB : Below w.heap.size w w2 := ((Below.refl _ _).alloc (Nat.le_refl _) _).trans (hb.mono (by simp))
    have hF : Hid (FmsAt w2 v (rtss f.rgx)) := hO.fms (hw.trans (hB.mono hw0)) (by omega)
    clear hO hb cT
    go_wp2
    go_ret
    exact ⟨_, rfl, hF.out, hB⟩

end Go.Proofs.YticnfeolbfmgfaaGreatDoor

namespace Go.Proofs.YticnfeolbfmgfaaGreatDoor
open Go.RowKit LX Go.Shelf
set_option linter.unusedVariables false

theorem own_monoB {w : World} {B B' e size n : Nat} {v : Value} {xs : List Value} (h : w.ownsRow B e size v n xs) (hB : B' ≤ B) : w.ownsRow B' e size v n xs := by
  obtain ⟨hL, ⟨e, hn0⟩ | ⟨g, cap, cur, rfl, hg1, hg2⟩⟩ := h
  · exact ⟨hL, .inl ⟨e, hn0⟩⟩
  · exact ⟨hL, .inr ⟨g, cap, cur, rfl, Nat.le_trans hB hg1, hg2⟩⟩
theorem LstsAt.below {w w' : World} {A : Value} {us : List Value} {rs : List (List ByteArray)} (h : LstsAt w A us rs) (hb : Below w.heap.size w w') : LstsAt w' A us rs := by
  obtain ⟨h1, p, c, e, h2, h3⟩ := h
  refine ⟨h1, p, c, e, fun k hk => ?_, fun k hk ky => (h3 k hk ky).below hb⟩
  obtain ⟨b, off, e2, hB, hc⟩ := h2 k hk
  exact ⟨b, off, e2, Nat.lt_of_lt_of_le hB hb.size, (hb.cell (p := ⟨b, _, none⟩) hB).trans hc⟩
theorem lsts_two {W : World} {b : Nat} {u v : Value} {xs ys : List ByteArray} (hb : b < W.heap.size) (h0 : W.cell? ⟨b, 0, none⟩ = some u) (h1 : W.cell? ⟨b, 1, none⟩ = some v) (hx : NmsAt W u xs) (hy : NmsAt W v ys) : LstsAt W (.slice (some ⟨b, 0, none⟩) 2 2) [u, v] [xs, ys] := by
  refine ⟨rfl, _, _, rfl, fun k hk => ⟨b, 0, rfl, hb, ?_⟩, fun k hk ky => ?_⟩
  · rcases k with _ | _ | k
    · exact h0
    · exact h1
    · simp at hk; omega
  · rcases k with _ | _ | k
    · exact hx
    · exact hy
    · simp at hk; omega

set_option maxRecDepth 100000 in
set_option maxHeartbeats 4000000 in
theorem freeLet_any (f : Fm) (q : FQ) (A : Value) (us : List Value) (rs : List (List ByteArray)) (w : World) (hA : LstsAt w A us rs) (hk : f.k = 20 ∨ f.k = 21) (h2 : 1 < us.length) (hy : 1 < rs.length) (h1 : us.length ≤ 1000000000) (B : Nat) (hO : OwnN B us[1] rs[1] w) :
    Calls Tryz.prog 127 #[.agg #[.int .i64 f.k, .string f.nm, .int .i64 f.op, q.v, q.t, .int .i64 f.lo, .int .i64 f.hi, .bool f.opn, q.s, q.r], A] w fun e w' => ∃ v, e = .returned v ∧ OwnN B v rs[1] w' ∧ Below w.heap.size w w' := by
  obtain ⟨-, p, c, rfl, ha, hb⟩ := hA
  obtain ⟨b, off, rfl, hB, hc⟩ := ha 1 h2
  have HN : Hid (OwnN B us[1] rs[1] w) := hO
  clear ha hb hO
  generalize us[1] = u at *
  generalize rs[1] = r at *
  generalize us.length = n at *
  generalize f.lo = lo at *
  generalize f.hi = hi at *
  generalize f.nm = nm at *
  generalize f.opn = o at *
  generalize f.op = op at *
  generalize f.k = k at *
  obtain ⟨uv, ut, us, ur⟩ := q
  dsimp only
  have h2' : (1 : Int) < n := by omega
  rcases hk with rfl | rfl
  · go_enter Tryz.func127, Tryz.ntmps127
    go_wp2
    go_ret
    exact ⟨_, rfl, HN.out.bel ((Below.refl _ _).alloc (Nat.le_refl _) _), (Below.refl _ _).alloc (Nat.le_refl _) _⟩
  · go_enter Tryz.func127, Tryz.ntmps127
    go_wp2
    go_ret
    exact ⟨_, rfl, HN.out.bel ((Below.refl _ _).alloc (Nat.le_refl _) _), (Below.refl _ _).alloc (Nat.le_refl _) _⟩

set_option maxRecDepth 100000 in
set_option maxHeartbeats 4000000 in
theorem freeOther_any (w0 : World) (f : Fm) (q : FQ) (hq : QAt w0 (f, q)) (A : Value) (us : List Value) (rs : List (List ByteArray)) (w : World) (hw : Below w0.heap.size w0 w) (hA : LstsAt w A us rs) (h10 : ¬ f.k = 10) (h19 : ¬ f.k = 19) (h20 : ¬ f.k = 20) (h21 : ¬ f.k = 21)
    (l1 : (tvss f.terms).length ≤ 100000000) (l2 : rs.flatten.length ≤ 100000000) (l3 : us.length ≤ 1000000000) :
    Calls Tryz.prog 127 #[.agg #[.int .i64 f.k, .string f.nm, .int .i64 f.op, q.v, q.t, .int .i64 f.lo, .int .i64 f.hi, .bool f.opn, q.s, q.r], A] w fun e w' => ∃ v, e = .returned v ∧ OwnN w.heap.size v (uniN [tvss f.terms, uniN rs]) w' ∧ Below w.heap.size w w' := by
  obtain ⟨uv, ut, uw, ur⟩ := q
  obtain ⟨h1, h2, h3, h4⟩ := hq
  dsimp only at h1 h2 h3 h4 ⊢
  obtain ⟨G, eG⟩ : ∃ G : List ByteArray, Hid (tvss f.terms = G) := ⟨_, rfl⟩
  have cG : Hid (∀ W : World, Below w0.heap.size w0 W → Calls Tryz.prog 169 #[.slice none 0 0, ut] W fun e w' => ∃ v, e = .returned v ∧ OwnN W.heap.size v G w' ∧ Below W.heap.size W w') := fun W hW => by
    have h := gathered_any w0 W.heap.size hW.size _ f.terms ut (.slice none 0 0) [] W (Nat.le_refl _) h2 hW (Nat.le_refl _) (OwnN.nil _ _) (by rw [List.nil_append]; omega)
    rw [List.nil_append, eG.out] at h
    exact h
  rw [eG.out] at l1 ⊢
  have lu : (uniN rs).length ≤ 100000000 := Nat.le_trans (uniN_len rs) l2
  have cU : Hid (∀ W : World, Below w.heap.size w W → Calls Tryz.prog 168 #[A] W fun e w' => ∃ v, e = .returned v ∧ OwnN W.heap.size v (uniN rs) w' ∧ Below W.heap.size W w') := fun W hW => union_any A us rs W (hA.below hW) (by omega) l3
  obtain ⟨-, pv, cv, rfl, -, -⟩ := h1
  obtain ⟨pt, ct, rfl, -⟩ := h2.form
  obtain ⟨ps, cs, rfl, -⟩ := h3.form
  obtain ⟨pr, cr, rfl, lr, -⟩ := h4.form
  obtain ⟨-, p, c, rfl, -⟩ := hA
  have hw0 := hw.size
  clear h2 h3 h4 eG
  generalize uniN rs = UR at *
  generalize f.vars.length = nv at *
  generalize f.terms.length = nt at *
  generalize f.subs.length = ns at *
  generalize f.rgx.length = nr at *
  generalize us.length = n at *
  generalize f.lo = lo at *
  generalize f.hi = hi at *
  generalize f.nm = nm at *
  generalize f.opn = o at *
  generalize f.op = op at *
  generalize f.k = k at *
  go_enter Tryz.func127, Tryz.ntmps127
  go_wp2_with fail
  refine (cG.out _ (hw.alloc hw0 _)).mono ?_
  rintro r w1 ⟨v1, rfl, hO1, hb1⟩
  have hB1 : Below w.heap.size w w1 := ((Below.refl _ _).alloc (Nat.le_refl _) _).trans (hb1.mono (by simp))
  have HN1 : Hid (NmsAt w1 v1 G) := hO1.nms (by omega)
  have hz1 := hB1.size
  clear hO1 hb1 cG
  go_wp2_with fail
  refine (cU.out _ hB1).mono ?_
  rintro r w2 ⟨v2, rfl, hO2, hb2⟩
  have hB2 : Below w.heap.size w w2 := hB1.trans (hb2.mono hz1)
  have HN2 : Hid (NmsAt w2 v2 UR) := hO2.nms (by omega)
  have HN3 : Hid (NmsAt w2 v1 G) := HN1.out.below hb2
  have hz2 := hB2.size
  clear hO2 hb2 cU HN1
  obtain ⟨p1, c1, rfl, -⟩ := HN3.out.form
  obtain ⟨p2, c2, rfl, -⟩ := HN2.out.form
  have HU : Hid (∀ (W : World) (b : Nat), Below w2.heap.size w2 W → b < W.heap.size → W.cell? ⟨b, 0, none⟩ = some (.slice p1 G.length c1) → W.cell? ⟨b, 1, none⟩ = some (.slice p2 UR.length c2) → Calls Tryz.prog 168 #[.slice (some ⟨b, 0, none⟩) 2 2] W fun e w' => ∃ v, e = .returned v ∧ OwnN W.heap.size v (uniN [G, UR]) w' ∧ Below W.heap.size W w') := fun W b h1 h2 h3 h4 =>
    union_any _ _ _ W (lsts_two h2 h3 h4 (HN3.out.below h1) (HN2.out.below h1)) (by simp; omega) (by simp)
  have lg : (uniN [G, UR]).length ≤ 9223372036854775807 := by have := uniN_len [G, UR]; simp at this; omega
  go_wp2_with fail
  refine (HU.out _ w2.heap.size ((Below.refl _ _).alloc (Nat.le_refl _) _) (by simp) (by simp [go_sem]) (by simp [go_sem])).mono ?_
  rintro r w3 ⟨v3, rfl, hO3, hb3⟩
  have hB3 : Below w.heap.size w w3 := (hB2.alloc hz2 _).trans (hb3.mono (by simp; omega))
  have HN4 : Hid (OwnN w.heap.size v3 (uniN [G, UR]) w3) := own_monoB hO3 (by simp; omega)
  clear hO3 hb3 HU
  go_wp2
  go_ret
  exact ⟨_, rfl, HN4.out, hB3⟩

end Go.Proofs.YticnfeolbfmgfaaGreatDoor

namespace Go.Proofs.YticnfeolbfmgfaaGreatDoor
open Go.RowKit LX Go.Shelf
set_option linter.unusedVariables false

set_option maxRecDepth 100000 in
set_option maxHeartbeats 4000000 in
theorem freeEx_any (f : Fm) (q : FQ) (w : World) (hv : NmsAt w q.v f.vars) (A : Value) (us : List Value) (rs : List (List ByteArray)) (hA : LstsAt w A us rs) (hk : f.k = 10) (h2 : 0 < us.length) (hy : 0 < rs.length) (h1 : us.length ≤ 1000000000) (l0 : rs[0].length ≤ 1000000000) :
    Calls Tryz.prog 127 #[.agg #[.int .i64 f.k, .string f.nm, .int .i64 f.op, q.v, q.t, .int .i64 f.lo, .int .i64 f.hi, .bool f.opn, q.s, q.r], A] w fun e w' => ∃ v, e = .returned v ∧ OwnN w.heap.size v (rs[0].filter fun s => !Lib.containsS f.vars s) w' ∧ Below w.heap.size w w' := by
  obtain ⟨-, p, c, rfl, ha, hb⟩ := hA
  obtain ⟨b, off, rfl, hB, hc⟩ := ha 0 h2
  rw [Nat.add_zero] at hc
  have HN : Hid (NmsAt w us[0] rs[0]) := hb 0 h2 hy
  clear ha hb
  obtain ⟨uv, ut, uw, ur⟩ := q
  dsimp only at hv ⊢
  have cW : Hid (∀ W : World, Below w.heap.size w W → Calls Tryz.prog 167 #[us[0], uv] W fun e w' => ∃ v, e = .returned v ∧ OwnN W.heap.size v (rs[0].filter fun s => !Lib.containsS f.vars s) w' ∧ Below W.heap.size W w') := fun W hW => without_any _ _ _ _ W (HN.out.below hW) (hv.below hW) l0
  have lf : (rs[0].filter fun s => !Lib.containsS f.vars s).length ≤ 9223372036854775807 := Nat.le_trans (List.length_filter_le _ _) (by omega)
  generalize (rs[0].filter fun s => !Lib.containsS f.vars s) = R at *
  obtain ⟨-, pv, cv, rfl, -, -⟩ := hv
  obtain ⟨-, px, cx, ex, -, -⟩ := HN.out
  rw [ex] at hc cW
  clear HN ex
  generalize rs[0].length = n0 at *
  generalize f.vars.length = nv at *
  generalize us.length = n at *
  generalize f.lo = lo at *
  generalize f.hi = hi at *
  generalize f.nm = nm at *
  generalize f.opn = o at *
  generalize f.op = op at *
  generalize f.k = k at *
  subst hk
  have h2' : (0 : Int) < n := by omega
  go_enter Tryz.func127, Tryz.ntmps127
  go_upto_region 3 with fail
  go_region_with (go_at_call 167; refine (cW.out _ (by go_grown)).mono ?_; rintro e w1 ⟨v1, rfl, hO, hb1⟩; obtain ⟨hB1, -⟩ := bgX (n := w.heap.size) (W0 := w) (by go_grown) (by go_size) hb1; have HF : Hid (OwnN w.heap.size v1 R w1) := own_monoB hO (by go_size); clear hb1 hO)
  all_goals (go_wp2; go_ret; exact ⟨_, rfl, HF.out, by first | assumption | go_grown⟩)

end Go.Proofs.YticnfeolbfmgfaaGreatDoor
