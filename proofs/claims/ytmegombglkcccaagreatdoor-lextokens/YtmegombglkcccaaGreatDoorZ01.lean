/- What rat.Of, rat.may, rat.split do. -/
import Derived.Test.YtmegombglkcccaaGreatDoorRows
import Derived.WalkKit
import Derived.WalkSpells
import Derived.WalkLawsBesides
import Derived.Handy
import Derived.BigQuiet
import Derived.Deep.QuietTactic
import Derived.WalkMore
import Derived.ScopeJumps
import Derived.Deep.RegionHeld3

namespace Go.Proofs.YtmegombglkcccaaGreatDoor
namespace LX
def digN (n : Nat) : Bool := decide (48 ≤ n) && decide (n ≤ 57)
def lowN (n : Nat) : Bool := decide (97 ≤ n) && decide (n ≤ 122)
def inwN (n : Nat) : Bool := lowN n || digN n || n == 95
def hd : List UInt8 → Nat
  | [] => 0
  | c :: _ => c.toNat
def run (p : Nat → Bool) : List UInt8 → Nat
  | [] => 0
  | c :: t => if p c.toNat then run p t + 1 else 0
def numLen (l : List UInt8) : Nat :=
  if hd (l.drop (run digN l)) = 47 ∧ digN (hd (l.drop (run digN l + 1))) = true then run digN l + 1 + run digN (l.drop (run digN l + 1)) else run digN l
def brk : List UInt8 → Option Nat
  | [] => none
  | c :: t => if c.toNat = 93 then some 1 else (brk t).map (· + 1)
def qend : Bool → List UInt8 → Option Nat
  | _, [] => none
  | true, _ :: t => (qend false t).map (· + 1)
  | false, c :: t => if c.toNat = 34 then some 1 else (qend (c.toNat == 92) t).map (· + 1)
def beh : List UInt8 → Nat × Nat
  | [] => (0, 0)
  | c :: t =>
    if c.toNat = 40 then (1, 1) else if c.toNat = 41 then (2, 1) else if lowN c.toNat then (3, 1 + run inwN t)
    else if digN c.toNat || (c.toNat == 45 && digN (hd t)) then (6, 1 + numLen t)
    else if c.toNat = 60 ∧ hd t = 61 then (4, 2)
    else if c.toNat = 61 ∨ c.toNat = 43 ∨ c.toNat = 42 ∨ c.toNat = 60 ∨ c.toNat = 45 then (4, 1)
    else if c.toNat = 91 then ((brk t).elim (0, 0) fun k => (5, 1 + k))
    else if c.toNat = 34 then ((qend false t).elim (0, 0) fun k => (6, 1 + k))
    else if c.toNat = 64 then (7, 1 + run digN t)
    else (0, 0)

theorem beh_cons (c : UInt8) (t : List UInt8) : beh (c :: t) =
    if c.toNat = 40 then (1, 1) else if c.toNat = 41 then (2, 1) else if lowN c.toNat then (3, 1 + run inwN t)
    else if digN c.toNat || (c.toNat == 45 && digN (hd t)) then (6, 1 + numLen t)
    else if c.toNat = 60 ∧ hd t = 61 then (4, 2)
    else if c.toNat = 61 ∨ c.toNat = 43 ∨ c.toNat = 42 ∨ c.toNat = 60 ∨ c.toNat = 45 then (4, 1)
    else if c.toNat = 91 then ((brk t).elim (0, 0) fun k => (5, 1 + k))
    else if c.toNat = 34 then ((qend false t).elim (0, 0) fun k => (6, 1 + k))
    else if c.toNat = 64 then (7, 1 + run digN t)
    else (0, 0) := rfl

theorem run_le (p : Nat → Bool) (l : List UInt8) : run p l ≤ l.length := by
  induction l with
  | nil => simp [run]
  | cons c t ih => simp only [run]; split <;> simp; exact ih
theorem brk_le (l : List UInt8) (k : Nat) (h : brk l = some k) : 1 ≤ k ∧ k ≤ l.length := by
  induction l generalizing k with
  | nil => simp [brk] at h
  | cons c t ih =>
    simp only [brk] at h
    split at h
    · cases h; simp
    · cases hb : brk t with
      | none => simp [hb] at h
      | some j => simp [hb] at h; have := ih j hb; simp; omega
theorem qend_le (b : Bool) (l : List UInt8) (k : Nat) (h : qend b l = some k) : 1 ≤ k ∧ k ≤ l.length := by
  induction l generalizing k b with
  | nil => cases b <;> simp [qend] at h
  | cons c t ih =>
    cases b with
    | true =>
      simp only [qend] at h
      cases hb : qend false t with
      | none => simp [hb] at h
      | some j => simp [hb] at h; have := ih false j hb; simp; omega
    | false =>
      simp only [qend] at h
      split at h
      · cases h; simp
      · cases hb : qend (c.toNat == 92) t with
        | none => simp [hb] at h
        | some j => simp [hb] at h; have := ih _ j hb; simp; omega
theorem numLen_le (l : List UInt8) : numLen l ≤ l.length := by
  unfold numLen
  have h1 := run_le digN l
  split
  · rename_i h
    have h2 := run_le digN (l.drop (run digN l + 1))
    have h3 : run digN l + 1 < l.length := by
      apply Classical.byContradiction
      intro h3
      have : l.drop (run digN l + 1) = [] := List.drop_eq_nil_of_le (by omega)
      rw [this] at h
      simp [hd, digN] at h
    simp at h2
    omega
  · exact h1
theorem beh_le (l : List UInt8) (h : (beh l).1 ≠ 0) : 1 ≤ (beh l).2 ∧ (beh l).2 ≤ l.length := by
  cases l with
  | nil => simp [beh] at h
  | cons c t =>
    have h1 := run_le inwN t
    have h2 := run_le digN t
    have h3 := numLen_le t
    revert h
    rw [beh_cons]
    split
    · intro _; simp
    split
    · intro _; simp
    split
    · intro _; simp; omega
    split
    · intro _; simp; omega
    split
    · rename_i h5; intro _
      cases t with
      | nil => simp [hd] at h5
      | cons => simp
    split
    · intro _; simp
    split
    · cases hb : brk t with
      | none => simp
      | some k => intro _; have := brk_le t k hb; simp; omega
    split
    · cases hb : qend false t with
      | none => simp
      | some k => intro _; have := qend_le false t k hb; simp; omega
    split
    · intro _; simp; omega
    · simp

/-- A text that goes on as another does, up to n bytes, and then stops or has a byte that is a blank. -/
inductive Stops : List UInt8 → Prop
  | nil : Stops []
  | cons {c : UInt8} {t : List UInt8} (h : c.toNat = 32 ∨ c.toNat = 10) : Stops (c :: t)

theorem Stops.hd {r : List UInt8} (h : Stops r) : hd r = 0 ∨ hd r = 32 ∨ hd r = 10 := by
  cases h with
  | nil => simp [LX.hd]
  | cons h => simp [LX.hd]; omega
theorem run_stop (p : Nat → Bool) {r : List UInt8} (hr : Stops r) (h1 : p 32 = false) (h2 : p 10 = false) (l : List UInt8) : run p (l.take (run p l) ++ r) = run p l := by
  induction l with
  | nil =>
    cases hr with
    | nil => simp [run]
    | cons h => rcases h with h | h <;> simp [run, h, h1, h2]
  | cons c t ih =>
    simp only [run]
    split
    · rename_i hc; simp [run, hc, ih]
    · rename_i hc
      cases hr with
      | nil => simp [run]
      | cons h => rcases h with h | h <;> simp [run, h, h1, h2]
theorem run_take (p : Nat → Bool) (l : List UInt8) (m : Nat) (h : run p l ≤ m) : run p (l.take m) = run p l := by
  induction l generalizing m with
  | nil => simp [run]
  | cons c t ih =>
    cases m with
    | zero => simp only [run] at h ⊢; split <;> simp_all [run]
    | succ m =>
      simp only [run, List.take_succ_cons] at h ⊢
      split
      · rename_i hc; simp [hc] at h; rw [ih m h]
      · rfl
theorem brk_app (l r : List UInt8) (k : Nat) (h : brk l = some k) : brk (l.take k ++ r) = some k := by
  induction l generalizing k with
  | nil => simp [brk] at h
  | cons c t ih =>
    simp only [brk] at h
    split at h
    · rename_i hc; cases h; simp [brk, hc]
    · rename_i hc
      cases hb : brk t with
      | none => simp [hb] at h
      | some j => simp [hb] at h; subst h; simp [brk, hc, ih j hb]
theorem qend_app (b : Bool) (l r : List UInt8) (k : Nat) (h : qend b l = some k) : qend b (l.take k ++ r) = some k := by
  induction l generalizing k b with
  | nil => cases b <;> simp [qend] at h
  | cons c t ih =>
    cases b with
    | true =>
      simp only [qend] at h
      cases hb : qend false t with
      | none => simp [hb] at h
      | some j => simp [hb] at h; subst h; simp [qend, ih _ j hb]
    | false =>
      simp only [qend] at h
      split at h
      · rename_i hc; cases h; simp [qend, hc]
      · rename_i hc
        cases hb : qend (c.toNat == 92) t with
        | none => simp [hb] at h
        | some j => simp [hb] at h; subst h; simp only [List.take_succ_cons, List.cons_append, qend, if_neg hc, ih _ j hb]; rfl
theorem take_split (l : List UInt8) (k m : Nat) (h : k ≤ m) : l.take m = l.take k ++ (l.drop k).take (m - k) := by
  rw [← List.take_append_drop k (l.take m), List.take_take, List.drop_take, Nat.min_eq_left h]
theorem hd_take (l : List UInt8) (m : Nat) (h : 0 < m) : hd (l.take m) = hd l := by
  cases l <;> cases m <;> simp_all [hd]

theorem numLen_take (l : List UInt8) (m : Nat) (h : numLen l ≤ m) : numLen (l.take m) = numLen l := by
  have hr : run digN l ≤ m := by
    unfold numLen at h
    split at h <;> omega
  unfold numLen at h ⊢
  rw [run_take digN l m hr, List.drop_take, List.drop_take]
  split at h
  · rename_i hc
    have h1 : run digN l + 1 + 1 ≤ m := by
      have : run digN (l.drop (run digN l + 1)) ≠ 0 := by
        cases hl : l.drop (run digN l + 1) with
        | nil => rw [hl] at hc; simp [hd, digN] at hc
        | cons c t => rw [hl] at hc; simp [run]; exact hc.2
      omega
    rw [hd_take _ _ (by omega), hd_take _ _ (by omega), if_pos hc, if_pos hc, run_take]
    omega
  · rename_i hc
    rw [if_neg hc, if_neg]
    intro hx
    apply hc
    have h0 : 0 < m - run digN l := by
      apply Classical.byContradiction; intro h0
      have : m - run digN l = 0 := by omega
      rw [this] at hx; simp [hd] at hx
    have h1 : 0 < m - (run digN l + 1) := by
      apply Classical.byContradiction; intro h1
      have : m - (run digN l + 1) = 0 := by omega
      rw [this] at hx; simp [hd, digN] at hx
    rw [hd_take _ _ h0, hd_take _ _ h1] at hx
    exact hx
theorem drop_app (l r : List UInt8) (k : Nat) (h : k = l.length) : (l ++ r).drop k = r := by
  subst h; simp
theorem numLen_stop {r : List UInt8} (hr : Stops r) (l : List UInt8) : numLen (l.take (numLen l) ++ r) = numLen l := by
  have hle := numLen_le l
  have hle2 := run_le digN l
  unfold numLen at hle
  by_cases hc : hd (l.drop (run digN l)) = 47 ∧ digN (hd (l.drop (run digN l + 1))) = true
  · have e : numLen l = run digN l + 1 + run digN (l.drop (run digN l + 1)) := by unfold numLen; rw [if_pos hc]
    rw [if_pos hc] at hle
    obtain ⟨d, hd'⟩ : ∃ d, run digN l = d := ⟨_, rfl⟩
    obtain ⟨x, hx⟩ : ∃ x, run digN (l.drop (d + 1)) = x := ⟨_, rfl⟩
    rw [hd'] at hc hle hle2 e
    rw [hx] at hle e
    have hx1 : x ≠ 0 := by
      subst hx
      cases hl : l.drop (d + 1) with
      | nil => rw [hl] at hc; simp [hd, digN] at hc
      | cons c t => rw [hl] at hc; simp [run]; exact hc.2
    have e1 : run digN (l.take (d + 1 + x) ++ r) = d := by
      rw [take_split l d (d + 1 + x) (by omega)]
      have hh : hd ((l.drop d).take (d + 1 + x - d) ++ r) = 47 := by
        cases hl : l.drop d with
        | nil => rw [hl] at hc; simp [hd] at hc
        | cons c t => rw [hl] at hc; rw [show d + 1 + x - d = x + 1 by omega]; simp [hd]; simpa [hd] using hc.1
      have : ∀ (l : List UInt8) (r' : List UInt8), hd r' = 47 → run digN (l.take (run digN l) ++ r') = run digN l := by
        intro l r' hr'
        induction l with
        | nil =>
          cases r' with
          | nil => simp [hd] at hr'
          | cons c t => simp [hd] at hr'; simp [run, hr', digN]
        | cons c t ih =>
          simp only [run]
          split
          · rename_i hc; simp [run, hc, ih]
          · cases r' with
            | nil => simp [hd] at hr'
            | cons c t => simp [hd] at hr'; simp [run, hr', digN]
      rw [List.append_assoc]
      conv => lhs; rw [← hd']
      exact (this l _ (by rw [hd']; exact hh)).trans hd'
    have e2 : (l.take (d + 1 + x) ++ r).drop d = (l.drop d).take (1 + x) ++ r := by
      rw [List.drop_append_of_le_length (by simp; omega), List.drop_take]; congr 2; omega
    have e3 : (l.take (d + 1 + x) ++ r).drop (d + 1) = (l.drop (d + 1)).take x ++ r := by
      rw [List.drop_append_of_le_length (by simp; omega), List.drop_take]; congr 2; omega
    rw [e]
    unfold numLen
    rw [e1, e2, e3]
    rw [if_pos]
    · have := run_stop digN hr (by decide) (by decide) (l.drop (d + 1))
      rw [hx] at this
      rw [this]
    · constructor
      · cases hl : l.drop d with
        | nil => rw [hl] at hc; simp [hd] at hc
        | cons c t => rw [hl] at hc; rw [show 1 + x = x + 1 by omega]; simpa [hd] using hc.1
      · cases hl : l.drop (d + 1) with
        | nil => rw [hl] at hc; simp [hd, digN] at hc
        | cons c t =>
          rw [hl] at hc
          obtain ⟨y, rfl⟩ : ∃ y, x = y + 1 := ⟨x - 1, by omega⟩
          simpa [hd] using hc.2
  · have e : numLen l = run digN l := by unfold numLen; rw [if_neg hc]
    rw [e]
    unfold numLen
    have e1 := run_stop digN hr (by decide) (by decide) l
    rw [e1]
    have e2 : (l.take (run digN l) ++ r).drop (run digN l) = r := drop_app _ _ _ (by simp; omega)
    rw [e2, if_neg]
    have := hr.hd
    omega

/-- The token at the beginning is the same, whatever stands behind it, if that is nothing, or a blank. -/
theorem beh_stop {r : List UInt8} (hr : Stops r) (l : List UInt8) (h : (beh l).1 ≠ 0) : beh (l.take (beh l).2 ++ r) = beh l := by
  cases l with
  | nil => simp [beh] at h
  | cons c t =>
    by_cases h1 : c.toNat = 40
    · simp [beh, h1]
    by_cases h2 : c.toNat = 41
    · simp [beh, h2]
    by_cases h3 : lowN c.toNat = true
    · have e : beh (c :: t) = (3, 1 + run inwN t) := by simp [beh_cons, h1, h2, h3]
      rw [e, show 1 + run inwN t = run inwN t + 1 by omega]
      simp [beh_cons, h1, h2, h3, run_stop inwN hr (by decide) (by decide) t]; omega
    by_cases h4 : digN c.toNat = true ∨ (c.toNat = 45 ∧ digN (hd t) = true)
    · have e : beh (c :: t) = (6, 1 + numLen t) := by simp [beh_cons, h1, h2, h3, h4]
      rw [e, show 1 + numLen t = numLen t + 1 by omega]
      have h4' : digN c.toNat = true ∨ (c.toNat = 45 ∧ digN (hd (t.take (numLen t) ++ r)) = true) := by
        rcases h4 with h4 | ⟨h4, h5⟩
        · exact .inl h4
        · refine .inr ⟨h4, ?_⟩
          have : numLen t ≠ 0 := by
            cases t with
            | nil => simp [hd, digN] at h5
            | cons a b =>
              have : run digN (a :: b) ≠ 0 := by simp [run]; simpa [hd] using h5
              unfold numLen; split <;> omega
          cases t with
          | nil => simp [hd, digN] at h5
          | cons a b =>
            obtain ⟨j, hj⟩ : ∃ j, numLen (a :: b) = j + 1 := ⟨numLen (a :: b) - 1, by omega⟩
            rw [hj]; simpa [hd] using h5
      simp [beh_cons, h1, h2, h3, h4', numLen_stop hr t]; omega
    by_cases h5 : c.toNat = 60 ∧ hd t = 61
    · have e : beh (c :: t) = (4, 2) := by rw [beh_cons]; simp_all
      rw [e]
      cases t with
      | nil => simp [hd] at h5
      | cons a b => simp [hd] at h5; simp only [beh, List.take_succ_cons, List.take_zero, List.cons_append, List.nil_append, hd]; simp_all
    by_cases h6 : c.toNat = 61 ∨ c.toNat = 43 ∨ c.toNat = 42 ∨ c.toNat = 60 ∨ c.toNat = 45
    · have e : beh (c :: t) = (4, 1) := by rw [beh_cons]; rw [if_neg h1, if_neg h2, if_neg h3, if_neg (by simpa using h4), if_neg h5, if_pos h6]
      have hh := hr.hd
      have n1 : digN (hd r) = false := by rcases hh with hh | hh | hh <;> rw [hh] <;> decide
      have n2 : hd r ≠ 61 := by omega
      rw [e]
      simp only [List.take_succ_cons, List.take_zero, List.cons_append, List.nil_append]
      rw [beh_cons]
      rw [if_neg h1, if_neg h2, if_neg h3, if_neg (by simp only [n1]; simp at h4 ⊢; exact h4.1), if_neg (by intro x; exact n2 x.2), if_pos h6]
    by_cases h7 : c.toNat = 91
    · cases hb : brk t with
      | none => exfalso; apply h; rw [beh_cons]; rw [if_neg h1, if_neg h2, if_neg h3, if_neg (by simpa using h4), if_neg h5, if_neg h6, if_pos h7, hb]; rfl
      | some k =>
        have e : beh (c :: t) = (5, 1 + k) := by rw [beh_cons]; rw [if_neg h1, if_neg h2, if_neg h3, if_neg (by simpa using h4), if_neg h5, if_neg h6, if_pos h7, hb]; rfl
        rw [e, show 1 + k = k + 1 by omega]
        have hb2 := brk_app t r k hb
        simp only [List.take_succ_cons, List.cons_append]
        rw [beh_cons]
        rw [if_neg h1, if_neg h2, if_neg h3, if_neg (by simp [h7]; decide), if_neg (by omega), if_neg h6, if_pos h7, hb2]
        simp; omega
    by_cases h8 : c.toNat = 34
    · cases hb : qend false t with
      | none => exfalso; apply h; rw [beh_cons]; rw [if_neg h1, if_neg h2, if_neg h3, if_neg (by simpa using h4), if_neg h5, if_neg h6, if_neg h7, if_pos h8, hb]; rfl
      | some k =>
        have e : beh (c :: t) = (6, 1 + k) := by rw [beh_cons]; rw [if_neg h1, if_neg h2, if_neg h3, if_neg (by simpa using h4), if_neg h5, if_neg h6, if_neg h7, if_pos h8, hb]; rfl
        rw [e, show 1 + k = k + 1 by omega]
        have hb2 := qend_app false t r k hb
        simp only [List.take_succ_cons, List.cons_append]
        rw [beh_cons]
        rw [if_neg h1, if_neg h2, if_neg h3, if_neg (by simp [h8]; decide), if_neg (by omega), if_neg h6, if_neg h7, if_pos h8, hb2]
        simp; omega
    by_cases h9 : c.toNat = 64
    · have e : beh (c :: t) = (7, 1 + run digN t) := by rw [beh_cons]; rw [if_neg h1, if_neg h2, if_neg h3, if_neg (by simpa using h4), if_neg h5, if_neg h6, if_neg h7, if_neg h8, if_pos h9]
      rw [e, show 1 + run digN t = run digN t + 1 by omega]
      simp only [List.take_succ_cons, List.cons_append]
      rw [beh_cons]
      rw [if_neg h1, if_neg h2, if_neg h3, if_neg (by simp [h9]; decide), if_neg (by omega), if_neg h6, if_neg h7, if_neg h8, if_pos h9, run_stop digN hr (by decide) (by decide) t]
      simp; omega
    · exfalso; apply h; rw [beh_cons]; rw [if_neg h1, if_neg h2, if_neg h3, if_neg (by simpa using h4), if_neg h5, if_neg h6, if_neg h7, if_neg h8, if_neg h9]

/-- The token at the beginning of a text is that of each piece of the text that holds it whole. -/
theorem beh_take (l : List UInt8) (m : Nat) (h : (beh l).1 ≠ 0) (hm : (beh l).2 ≤ m) : beh (l.take m) = beh l := by
  cases l with
  | nil => simp [beh] at h
  | cons c t =>
    have hpos := (beh_le (c :: t) h).1
    obtain ⟨j, rfl⟩ : ∃ j, m = j + 1 := ⟨m - 1, by omega⟩
    rw [List.take_succ_cons]
    by_cases h1 : c.toNat = 40
    · simp [beh, h1]
    by_cases h2 : c.toNat = 41
    · simp [beh, h2]
    by_cases h3 : lowN c.toNat = true
    · have e : beh (c :: t) = (3, 1 + run inwN t) := by simp [beh_cons, h1, h2, h3]
      rw [e] at hm ⊢
      dsimp only at hm
      simp [beh_cons, h1, h2, h3, run_take inwN t j (by omega)]
    by_cases h4 : digN c.toNat = true ∨ (c.toNat = 45 ∧ digN (hd t) = true)
    · have e : beh (c :: t) = (6, 1 + numLen t) := by simp [beh_cons, h1, h2, h3, h4]
      rw [e] at hm ⊢
      dsimp only at hm
      have h4' : digN c.toNat = true ∨ (c.toNat = 45 ∧ digN (hd (t.take j)) = true) := by
        rcases h4 with h4 | ⟨h4, h5⟩
        · exact .inl h4
        · refine .inr ⟨h4, ?_⟩
          have : numLen t ≠ 0 := by
            cases t with
            | nil => simp [hd, digN] at h5
            | cons a b =>
              have : run digN (a :: b) ≠ 0 := by simp [run]; simpa [hd] using h5
              unfold numLen; split <;> omega
          rw [hd_take _ _ (by omega)]
          exact h5
      simp [beh_cons, h1, h2, h3, h4', numLen_take t j (by omega)]
    by_cases h5 : c.toNat = 60 ∧ hd t = 61
    · have e : beh (c :: t) = (4, 2) := by rw [beh_cons]; simp_all
      rw [e] at hm ⊢
      dsimp only at hm
      have h5' : c.toNat = 60 ∧ hd (t.take j) = 61 := by rw [hd_take _ _ (by omega)]; exact h5
      rw [beh_cons]
      rw [if_neg h1, if_neg h2, if_neg h3, if_neg (by simp [h5.1]; decide), if_pos h5']
    by_cases h6 : c.toNat = 61 ∨ c.toNat = 43 ∨ c.toNat = 42 ∨ c.toNat = 60 ∨ c.toNat = 45
    · have e : beh (c :: t) = (4, 1) := by rw [beh_cons]; rw [if_neg h1, if_neg h2, if_neg h3, if_neg (by simpa using h4), if_neg h5, if_pos h6]
      rw [e]
      have hj : hd (t.take j) = 0 ∨ hd (t.take j) = hd t := by
        cases j with
        | zero => left; simp [hd]
        | succ j => right; exact hd_take _ _ (by omega)
      rw [beh_cons]
      rw [if_neg h1, if_neg h2, if_neg h3, if_neg, if_neg, if_pos h6]
      · rcases hj with hj | hj <;> rw [hj]
        · simp
        · exact h5
      · rcases hj with hj | hj <;> rw [hj]
        · simp at h4 ⊢; exact ⟨h4.1, fun _ => by decide⟩
        · simpa using h4
    by_cases h7 : c.toNat = 91
    · cases hb : brk t with
      | none => exfalso; apply h; rw [beh_cons]; rw [if_neg h1, if_neg h2, if_neg h3, if_neg (by simpa using h4), if_neg h5, if_neg h6, if_pos h7, hb]; rfl
      | some k =>
        have e : beh (c :: t) = (5, 1 + k) := by rw [beh_cons]; rw [if_neg h1, if_neg h2, if_neg h3, if_neg (by simpa using h4), if_neg h5, if_neg h6, if_pos h7, hb]; rfl
        rw [e] at hm ⊢
        dsimp only at hm
        have hb2 := brk_app t ((t.drop k).take (j - k)) k hb
        rw [← take_split t k j (by omega)] at hb2
        rw [beh_cons]
        rw [if_neg h1, if_neg h2, if_neg h3, if_neg (by simp [h7]; decide), if_neg (by omega), if_neg h6, if_pos h7, hb2]
        rfl
    by_cases h8 : c.toNat = 34
    · cases hb : qend false t with
      | none => exfalso; apply h; rw [beh_cons]; rw [if_neg h1, if_neg h2, if_neg h3, if_neg (by simpa using h4), if_neg h5, if_neg h6, if_neg h7, if_pos h8, hb]; rfl
      | some k =>
        have e : beh (c :: t) = (6, 1 + k) := by rw [beh_cons]; rw [if_neg h1, if_neg h2, if_neg h3, if_neg (by simpa using h4), if_neg h5, if_neg h6, if_neg h7, if_pos h8, hb]; rfl
        rw [e] at hm ⊢
        dsimp only at hm
        have hb2 := qend_app false t ((t.drop k).take (j - k)) k hb
        rw [← take_split t k j (by omega)] at hb2
        rw [beh_cons]
        rw [if_neg h1, if_neg h2, if_neg h3, if_neg (by simp [h8]; decide), if_neg (by omega), if_neg h6, if_neg h7, if_pos h8, hb2]
        rfl
    by_cases h9 : c.toNat = 64
    · have e : beh (c :: t) = (7, 1 + run digN t) := by rw [beh_cons]; rw [if_neg h1, if_neg h2, if_neg h3, if_neg (by simpa using h4), if_neg h5, if_neg h6, if_neg h7, if_neg h8, if_pos h9]
      rw [e] at hm ⊢
      dsimp only at hm
      rw [beh_cons]
      rw [if_neg h1, if_neg h2, if_neg h3, if_neg (by simp [h9]; decide), if_neg (by omega), if_neg h6, if_neg h7, if_neg h8, if_pos h9, run_take digN t j (by omega)]
    · exfalso; apply h; rw [beh_cons]; rw [if_neg h1, if_neg h2, if_neg h3, if_neg (by simpa using h4), if_neg h5, if_neg h6, if_neg h7, if_neg h8, if_neg h9]

def blk (c : UInt8) : Bool := c.toNat == 32 || c.toNat == 10
structure Tok (V : Type) where
  k : Nat
  at_ : Nat
  x : List UInt8
  v : V
section
variable {V : Type} (sd : Nat → List UInt8 → V × Bool)
def fine (l : List UInt8) : Prop := (beh l).1 ≠ 0 ∧ (sd (beh l).1 (l.take (beh l).2)).2 = true
instance (l : List UInt8) : Decidable (fine sd l) := inferInstanceAs (Decidable (_ ∧ _))
def tokAt (l : List UInt8) (p : Nat) : Tok V := ⟨(beh l).1, p, l.take (beh l).2, (sd (beh l).1 (l.take (beh l).2)).1⟩
def toks : Nat → List UInt8 → Nat → List (Tok V) × Option Nat
  | 0, _, _ => ([], none)
  | _ + 1, [], _ => ([], none)
  | f + 1, c :: t, p =>
    if blk c then toks f t (p + 1)
    else if fine sd (c :: t) then (tokAt sd (c :: t) p :: (toks f ((c :: t).drop (beh (c :: t)).2) (p + (beh (c :: t)).2)).1, (toks f ((c :: t).drop (beh (c :: t)).2) (p + (beh (c :: t)).2)).2)
    else ([], some p)
theorem toks_fuel (f g : Nat) (l : List UInt8) (p : Nat) (hf : l.length ≤ f) (hg : l.length ≤ g) : toks sd f l p = toks sd g l p := by
  induction f generalizing g l p with
  | zero =>
    have : l = [] := List.length_eq_zero_iff.mp (by omega)
    subst this
    cases g <;> simp [toks]
  | succ f ih =>
    cases l with
    | nil => cases g <;> simp [toks]
    | cons c t =>
      cases g with
      | zero => simp at hg
      | succ g =>
        simp at hf hg
        simp only [toks]
        rw [ih g t (p + 1) hf hg]
        split
        · rfl
        split
        · rename_i h
          have h1 := beh_le _ h.1
          have h2 : ((c :: t).drop (beh (c :: t)).2).length ≤ t.length := by simp; omega
          rw [ih g ((c :: t).drop (beh (c :: t)).2) (p + (beh (c :: t)).2) (by omega) (by omega)]
        · rfl
/-- The tokens of a text that begins at a place, and where the first is that is none. -/
def T (l : List UInt8) (p : Nat) : List (Tok V) × Option Nat := toks sd l.length l p
theorem T_nil (p : Nat) : T sd [] p = ([], none) := rfl
theorem T_blank {c : UInt8} (t : List UInt8) (p : Nat) (h : blk c = true) : T sd (c :: t) p = T sd t (p + 1) := by
  simp [T, toks, h]
theorem T_tok {c : UInt8} {t : List UInt8} (p : Nat) (h : blk c = false) (hf : fine sd (c :: t)) :
    T sd (c :: t) p = (tokAt sd (c :: t) p :: (T sd ((c :: t).drop (beh (c :: t)).2) (p + (beh (c :: t)).2)).1, (T sd ((c :: t).drop (beh (c :: t)).2) (p + (beh (c :: t)).2)).2) := by
  have h1 := beh_le _ hf.1
  have h2 : ((c :: t).drop (beh (c :: t)).2).length ≤ t.length := by simp; omega
  simp only [T]
  rw [show (c :: t).length = t.length + 1 from rfl]
  simp only [toks, h, if_pos hf]
  rw [toks_fuel sd t.length _ ((c :: t).drop (beh (c :: t)).2) _ h2 (Nat.le_refl _)]
  rfl
theorem T_none {c : UInt8} {t : List UInt8} (p : Nat) (h : blk c = false) (hf : ¬ fine sd (c :: t)) : T sd (c :: t) p = ([], some p) := by
  simp [T, toks, h, hf]

/-- A text is nothing but blanks, or blanks and a token with the rest behind it, or blanks and what is no token. -/
theorem T_cases (l : List UInt8) (p : Nat) :
    ((∀ c ∈ l, blk c = true) ∧ T sd l p = ([], none))
    ∨ (∃ b, b < l.length ∧ (∀ c ∈ l.take b, blk c = true) ∧ hd (l.drop b) ≠ 32 ∧ hd (l.drop b) ≠ 10 ∧ fine sd (l.drop b) ∧ T sd l p = (tokAt sd (l.drop b) (p + b) :: (T sd (l.drop (b + (beh (l.drop b)).2)) (p + b + (beh (l.drop b)).2)).1, (T sd (l.drop (b + (beh (l.drop b)).2)) (p + b + (beh (l.drop b)).2)).2))
    ∨ (∃ b, b < l.length ∧ (∀ c ∈ l.take b, blk c = true) ∧ hd (l.drop b) ≠ 32 ∧ hd (l.drop b) ≠ 10 ∧ ¬ fine sd (l.drop b) ∧ T sd l p = ([], some (p + b))) := by
  induction l generalizing p with
  | nil => left; exact ⟨by simp, rfl⟩
  | cons c t ih =>
    cases hb : blk c with
    | true =>
      rw [T_blank sd t p hb]
      rcases ih (p + 1) with ⟨h1, h2⟩ | ⟨b, h1, h2, h2a, h2b, h3, h4⟩ | ⟨b, h1, h2, h2a, h2b, h3, h4⟩
      · left; exact ⟨by intro x hx; cases hx with | head => exact hb | tail _ h => exact h1 x h, h2⟩
      · right; left
        refine ⟨b + 1, by simp; omega, ?_, h2a, h2b, h3, ?_⟩
        · intro x hx
          rw [List.take_succ_cons] at hx
          cases hx with | head => exact hb | tail _ h => exact h2 x h
        · rw [h4, show b + 1 + (beh ((c :: t).drop (b + 1))).2 = b + (beh (t.drop b)).2 + 1 by simp; omega]
          simp only [List.drop_succ_cons]
          rw [show p + 1 + b = p + (b + 1) by omega]
      · right; right
        refine ⟨b + 1, by simp; omega, ?_, h2a, h2b, h3, ?_⟩
        · intro x hx
          rw [List.take_succ_cons] at hx
          cases hx with | head => exact hb | tail _ h => exact h2 x h
        · rw [h4, show p + 1 + b = p + (b + 1) by omega]
    | false =>
      have hn : c.toNat ≠ 32 ∧ c.toNat ≠ 10 := by simpa [blk] using hb
      by_cases hf : fine sd (c :: t)
      · right; left
        refine ⟨0, by simp, by simp, hn.1, hn.2, hf, ?_⟩
        rw [T_tok sd p hb hf]; simp
      · right; right
        exact ⟨0, by simp, by simp, hn.1, hn.2, hf, T_none sd p hb hf⟩

theorem T_blanks (b r : List UInt8) (p : Nat) (h : ∀ c ∈ b, blk c = true) : T sd (b ++ r) p = T sd r (p + b.length) := by
  induction b generalizing p with
  | nil => rfl
  | cons c t ih =>
    rw [List.cons_append, T_blank sd _ _ (h c (by simp)), ih (p + 1) (fun x hx => h x (by simp [hx]))]
    simp; congr 1; omega
theorem blk_of {l : List UInt8} (h0 : l ≠ []) (h1 : hd l ≠ 32) (h2 : hd l ≠ 10) : ∃ c t, l = c :: t ∧ blk c = false := by
  cases l with
  | nil => exact absurd rfl h0
  | cons c t => exact ⟨c, t, rfl, by simp [blk]; simpa [hd] using ⟨h1, h2⟩⟩
theorem T_tok' {l : List UInt8} (p : Nat) (h0 : l ≠ []) (h1 : hd l ≠ 32) (h2 : hd l ≠ 10) (hf : fine sd l) :
    T sd l p = (tokAt sd l p :: (T sd (l.drop (beh l).2) (p + (beh l).2)).1, (T sd (l.drop (beh l).2) (p + (beh l).2)).2) := by
  obtain ⟨c, t, rfl, hb⟩ := blk_of h0 h1 h2
  exact T_tok sd p hb hf
theorem T_none' {l : List UInt8} (p : Nat) (h0 : l ≠ []) (h1 : hd l ≠ 32) (h2 : hd l ≠ 10) (hf : ¬ fine sd l) : T sd l p = ([], some p) := by
  obtain ⟨c, t, rfl, hb⟩ := blk_of h0 h1 h2
  exact T_none sd p hb hf
theorem fine_take (l : List UInt8) (m : Nat) (hm : (beh l).2 ≤ m) (h : fine sd l) : fine sd (l.take m) ∧ (∀ p, tokAt sd (l.take m) p = tokAt sd l p) := by
  have e := beh_take l m h.1 hm
  refine ⟨?_, fun p => ?_⟩
  · unfold fine; rw [e, List.take_take, Nat.min_eq_left hm]; exact h
  · unfold tokAt; rw [e, List.take_take, Nat.min_eq_left hm]

/-- The place of what is none lies in the text; ahead of it all is cut, and from there on it stands at the beginning. -/
theorem T_ahead (n : Nat) (l : List UInt8) (hn : l.length ≤ n) (p q : Nat) (h : (T sd l p).2 = some q) :
    p ≤ q ∧ q - p < l.length ∧ (T sd (l.take (q - p)) p).2 = none ∧ T sd (l.drop (q - p)) 0 = ([], some 0) := by
  induction n generalizing l p with
  | zero =>
    have : l = [] := List.length_eq_zero_iff.mp (by omega)
    subst this
    simp [T, toks] at h
  | succ n ih =>
    rcases T_cases sd l p with ⟨h1, h2⟩ | ⟨b, h1, h2, h2a, h2b, h3, h4⟩ | ⟨b, h1, h2, h2a, h2b, h3, h4⟩
    · rw [h2] at h; cases h
    · rw [h4] at h
      have hle := beh_le _ h3.1
      have hl : (l.drop b).length = l.length - b := by simp
      have hne : l.drop b ≠ [] := by intro x; rw [x] at hl; simp at hl; omega
      obtain ⟨m, hm⟩ : ∃ m, (beh (l.drop b)).2 = m := ⟨_, rfl⟩
      rw [hm] at h h4 hle
      dsimp only at h
      obtain ⟨g1, g2, g3, g4⟩ := ih (l.drop (b + m)) (by simp; omega) (p + b + m) h
      simp only [List.length_drop] at g2
      refine ⟨by omega, by omega, ?_, ?_⟩
      · have e1 : l.take (q - p) = l.take b ++ (l.drop b).take (q - p - b) := take_split l b (q - p) (by omega)
        rw [e1, T_blanks sd _ _ _ h2]
        have hlb : (l.take b).length = b := by simp; omega
        rw [hlb]
        obtain ⟨f1, f2⟩ := fine_take sd (l.drop b) (q - p - b) (by omega) h3
        have hd1 : hd ((l.drop b).take (q - p - b)) = hd (l.drop b) := hd_take _ _ (by omega)
        have e2 : beh ((l.drop b).take (q - p - b)) = beh (l.drop b) := beh_take _ _ h3.1 (by omega)
        rw [T_tok' sd (p + b) (by intro x; rw [x] at hd1; have := f1.1; rw [x] at this; simp [beh] at this) (by rw [hd1]; exact h2a) (by rw [hd1]; exact h2b) f1]
        rw [e2, hm, List.drop_take, List.drop_drop]
        dsimp only
        rw [show q - p - b - m = q - (p + b + m) by omega]
        exact g3
      · rw [List.drop_drop] at g4
        rw [show q - p = b + m + (q - (p + b + m)) by omega]
        exact g4
    · rw [h4] at h
      have hq : q = p + b := by simpa using h.symm
      subst hq
      have hne : l.drop b ≠ [] := by
        intro x
        have : (l.drop b).length = l.length - b := by simp
        rw [x] at this; simp at this; omega
      rw [show p + b - p = b by omega]
      refine ⟨by omega, h1, ?_, T_none' sd 0 hne h2a h2b h3⟩
      have := T_blanks sd (l.take b) [] p h2
      rw [List.append_nil] at this
      rw [this]; rfl
theorem T_in (l : List UInt8) (p q : Nat) (h : (T sd l p).2 = some q) : p ≤ q ∧ q - p < l.length := by
  have := T_ahead sd l.length l (Nat.le_refl _) p q h
  exact ⟨this.1, this.2.1⟩

/-- A token that may be, by itself. -/
structure Good (t : Tok V) : Prop where
  k : t.k ≠ 0
  b : beh t.x = (t.k, t.x.length)
  s : sd t.k t.x = (t.v, true)
theorem Good.pos {t : Tok V} (h : Good sd t) : 1 ≤ t.x.length := by
  have := beh_le t.x (by rw [h.b]; exact h.k)
  rw [h.b] at this; exact this.1
theorem good_at (l : List UInt8) (p : Nat) (h : fine sd l) : Good sd (tokAt sd l p) := by
  have hle := beh_le l h.1
  refine ⟨h.1, ?_, ?_⟩
  · show beh (l.take (beh l).2) = ((beh l).1, (l.take (beh l).2).length)
    rw [beh_take l _ h.1 (Nat.le_refl _), List.length_take, Nat.min_eq_left hle.2]
  · show sd (beh l).1 (l.take (beh l).2) = ((sd (beh l).1 (l.take (beh l).2)).1, true)
    rw [← h.2]
theorem T_good (n : Nat) (l : List UInt8) (hn : l.length ≤ n) (p : Nat) : ∀ t ∈ (T sd l p).1, Good sd t := by
  induction n generalizing l p with
  | zero =>
    have : l = [] := List.length_eq_zero_iff.mp (by omega)
    subst this
    simp [T, toks]
  | succ n ih =>
    rcases T_cases sd l p with ⟨h1, h2⟩ | ⟨b, h1, h2, h2a, h2b, h3, h4⟩ | ⟨b, h1, h2, h2a, h2b, h3, h4⟩
    · rw [h2]; simp
    · rw [h4]
      have hle := beh_le _ h3.1
      intro t ht
      cases ht with
      | head => exact good_at sd _ _ h3
      | tail _ ht => exact ih _ (by simp; omega) _ t ht
    · rw [h4]; simp
/-- Tokens laid down with blanks ahead of each. -/
def lay : List (List UInt8 × Tok V) → List UInt8
  | [] => []
  | (g, t) :: r => g ++ (t.x ++ lay r)
/-- The tokens as they are found there. -/
def moved : List (List UInt8 × Tok V) → Nat → List (Tok V)
  | [], _ => []
  | (g, t) :: r, p => ⟨t.k, p + g.length, t.x, t.v⟩ :: moved r (p + g.length + t.x.length)
theorem lay_stops (r : List (List UInt8 × Tok V)) (h : ∀ y ∈ r, y.1 ≠ [] ∧ ∀ c ∈ y.1, blk c = true) : Stops (lay r) := by
  cases r with
  | nil => exact .nil
  | cons y r =>
    obtain ⟨g, t⟩ := y
    obtain ⟨h1, h2⟩ := h (g, t) (by simp)
    cases g with
    | nil => exact absurd rfl h1
    | cons c g => exact .cons (by simpa [blk] using h2 c (by simp))
theorem T_again (r : List (List UInt8 × Tok V)) (p : Nat) (h : ∀ y ∈ r, (y.1 ≠ [] ∧ ∀ c ∈ y.1, blk c = true) ∧ Good sd y.2) : T sd (lay r) p = (moved r p, none) := by
  induction r generalizing p with
  | nil => rfl
  | cons y r ih =>
    obtain ⟨g, t⟩ := y
    obtain ⟨⟨h1, h2⟩, h3⟩ := h (g, t) (by simp)
    have hst := lay_stops r (fun y hy => (h y (by simp [hy])).1)
    have hpos := h3.pos
    have hk : (beh t.x).1 ≠ 0 := by rw [h3.b]; exact h3.k
    have e := beh_stop hst t.x hk
    have e0 : t.x.take (beh t.x).2 = t.x := by rw [h3.b]; simp
    rw [e0, h3.b] at e
    show T sd (g ++ (t.x ++ lay r)) p = _
    rw [T_blanks sd g _ p h2]
    have hf : fine sd (t.x ++ lay r) := by
      unfold fine; rw [e]; refine ⟨h3.k, ?_⟩
      dsimp only
      rw [List.take_left', h3.s]; rfl
    have hx : ∃ c u, t.x = c :: u := by
      cases hx : t.x with
      | nil => rw [hx] at hpos; simp at hpos
      | cons c u => exact ⟨c, u, rfl⟩
    obtain ⟨c, u, hx⟩ := hx
    have hb : blk c = false := by
      have hh := h3.b
      rw [hx] at hh
      cases hb : blk c with
      | false => rfl
      | true =>
        exfalso
        have : c.toNat = 32 ∨ c.toNat = 10 := by simpa [blk] using hb
        have h0 := h3.k
        have h9 : (beh (c :: u)).1 = t.k := by rw [hh]
        rw [← h9] at h0
        apply h0
        rcases this with h | h <;> simp [beh_cons, h, lowN, digN]
    have hne : t.x ++ lay r ≠ [] := by rw [hx]; simp
    have hd1 : hd (t.x ++ lay r) ≠ 32 ∧ hd (t.x ++ lay r) ≠ 10 := by rw [hx]; simpa [hd, blk] using hb
    rw [T_tok' sd _ hne hd1.1 hd1.2 hf]
    have e1 : (t.x ++ lay r).drop (beh (t.x ++ lay r)).2 = lay r := by rw [e]; simp
    rw [e1, ih _ (fun y hy => h y (by simp [hy]))]
    have e2 : tokAt sd (t.x ++ lay r) (p + g.length) = ⟨t.k, p + g.length, t.x, t.v⟩ := by
      unfold tokAt; rw [e]; dsimp only; rw [List.take_left', h3.s]; rfl
    rw [e2, e]
    rfl
end
end LX
end Go.Proofs.YtmegombglkcccaaGreatDoor

namespace Go.Proofs.YtmegombglkcccaaGreatDoor
open Go.RowKit LX

/-- As Q; by a goto to a label: what J says of that label. -/
def Exit.jumps (J : Nat → Act → World → Prop) (Q : Exit → Act → World → Prop) : Exit → Act → World → Prop
  | .goto l, a, w => J l a w
  | e, a, w => Q e a w
section
variable {P : Program} {a : Act} {w : World} {Q : Exit → Act → World → Prop}
theorem wp_scope_labels {c : Code} (J : Nat → Act → World → Prop) (μ : Nat → Act → World → Nat)
    (first : c.wp P (Exit.jumps J Q) a w)
    (pass : ∀ l a w, J l a w → ∃ rest, findLabel c l = some rest ∧ rest.wp P (Exit.jumps (fun l' a' w' => J l' a' w' ∧ μ l' a' w' < μ l a w) Q) a w) : (Code.scope c).wp P Q a w := by
  intro b k cs
  have key : ∀ n l a w rest, findLabel c l = some rest → μ l a w = n → J l a w → ∃ e a' w', Q e a' w' ∧ Arrives P (lone (b.at a (.code rest :: .inScope c :: k)) cs w) b k cs e a' w' := by
    intro n
    induction n using Nat.strongRecOn with
    | _ n ih =>
      intro l a w rest hf hn hJ
      obtain ⟨rest', hf', hp⟩ := pass l a w hJ
      rw [hf] at hf'
      cases hf'
      obtain ⟨e, a₁, w₁, hq, harr⟩ := hp b (.inScope c :: k) cs
      cases e with
      | normal => exact ⟨.normal, a₁, w₁, hq, Steps.trans harr (.one step_inScope)⟩
      | exit id => exact ⟨.exit id, a₁, w₁, hq, fun k' hk => harr k' (by simp [exitTo, hk])⟩
      | goto l' =>
        obtain ⟨hJ', hlt⟩ := hq
        obtain ⟨rest2, hf2, -⟩ := pass l' a₁ w₁ hJ'
        have hg : gotoIn l' (.inScope c :: k) = some (.code rest2 :: .inScope c :: k) := by simp [gotoIn, hf2]
        obtain ⟨e₂, a₂, w₂, hq₂, harr₂⟩ := ih _ (by omega) l' a₁ w₁ rest2 hf2 rfl hJ'
        exact ⟨e₂, a₂, w₂, hq₂, .of_steps (harr _ hg) harr₂⟩
      | ret => exact ⟨_, a₁, w₁, hq, harr⟩
      | panic ch => exact ⟨_, a₁, w₁, hq, harr⟩
      | outgrown => exact ⟨_, a₁, w₁, hq, harr⟩
  obtain ⟨e, a₁, w₁, hq, harr⟩ := first b (.inScope c :: k) cs
  cases e with
  | normal => exact ⟨.normal, a₁, w₁, hq, .head step_scope (Steps.trans harr (.one step_inScope))⟩
  | exit id => exact ⟨.exit id, a₁, w₁, hq, fun k' hk => .head step_scope (harr k' (by simp [exitTo, hk]))⟩
  | goto l' =>
    obtain ⟨rest, hf, -⟩ := pass l' a₁ w₁ hq
    have hg : gotoIn l' (.inScope c :: k) = some (.code rest :: .inScope c :: k) := by simp [gotoIn, hf]
    obtain ⟨e₂, a₂, w₂, hq₂, harr₂⟩ := key _ l' a₁ w₁ rest hf rfl hq
    exact ⟨e₂, a₂, w₂, hq₂, .of_steps (.head step_scope (harr _ hg)) harr₂⟩
  | ret => exact ⟨_, a₁, w₁, hq, .of_steps (.one step_scope) harr⟩
  | panic ch => exact ⟨_, a₁, w₁, hq, .of_steps (.one step_scope) harr⟩
  | outgrown => exact ⟨_, a₁, w₁, hq, .of_steps (.one step_scope) harr⟩
theorem wp_scope_gotos {c : Code} (J : Nat → Act → World → Prop) (μ : Nat → Act → World → Nat)
    (pass : ∀ l a w, J l a w → ∃ y, findLabel c l = some (.seq .skip y) ∧ y.wp P (Exit.jumps (fun l' a' w' => J l' a' w' ∧ μ l' a' w' < μ l a w) Q) a w)
    (first : (∀ l a w y, J l a w → findLabel c l = some (.seq .skip y) → y.wp P (Exit.jumps J Q) a w) → c.wp P (Exit.jumps J Q) a w) : (Code.scope c).wp P Q a w := by
  refine wp_scope_labels J μ (first ?_) ?_
  · intro l a w y h hf
    obtain ⟨r, hr, hp⟩ := pass l a w h
    rw [hf] at hr
    cases hr
    refine wp_mono hp ?_
    intro e a w h
    cases e with
    | goto l => exact h.1
    | _ => exact h
  · intro l a w h
    obtain ⟨r, hr, hp⟩ := pass l a w h
    exact ⟨_, hr, wp_seq (wp_skip hp)⟩
theorem wp_scope_from {y0 : Code} (l0 : Nat) (J : Nat → Act → World → Prop) (μ : Nat → Act → World → Nat) (hf : findLabel (.seq (.label l0) y0) l0 = some (.seq .skip y0))
    (h0 : J l0 a w)
    (pass : ∀ l a w, J l a w → ∃ y, findLabel (.seq (.label l0) y0) l = some (.seq .skip y) ∧ y.wp P (Exit.jumps (fun l' a' w' => J l' a' w' ∧ μ l' a' w' < μ l a w) Q) a w) : (Code.scope (.seq (.label l0) y0)).wp P Q a w :=
  wp_scope_gotos J μ pass (fun h => wp_seq (wp_label (h l0 a w y0 h0 hf)))
end


theorem reti {k : IntKind} {a b : Int} (h : a = b) : Ending.returned (.int k a) = .returned (.int k b) := by rw [h]
theorem retb {a b : Bool} (h : a = b) : Ending.returned (.bool a) = .returned (.bool b) := by rw [h]
theorem hd_drop (s : ByteArray) (i : Nat) (h : i < s.size) : hd (s.data.toList.drop i) = s[i].toNat := by
  have h' : i < s.data.toList.length := by simpa using h
  rw [List.drop_eq_getElem_cons h']
  rfl
theorem hd_end (s : ByteArray) (i : Nat) (h : s.size ≤ i) : hd (s.data.toList.drop i) = 0 := by
  rw [List.drop_eq_nil_of_le (by simpa using h)]; rfl
theorem hd_lt (l : List UInt8) : hd l < 256 := by
  cases l with
  | nil => simp [hd]
  | cons c t => exact c.toNat_lt

theorem letter_any (c : Nat) (w : World) (hc : c < 256) :
    Calls Tryz.prog 24 #[.int .u8 c] w fun e w' => e = .returned (.bool (lowN c)) ∧ w' = w := by
  go_enter Tryz.func24, Tryz.ntmps24
  go_wp2
  all_goals go_ret
  all_goals refine ⟨retb ?_, rfl⟩
  all_goals unfold lowN
  all_goals rw [Bool.eq_iff_iff]
  all_goals simp
  all_goals omega
theorem digit_any (c : Nat) (w : World) (hc : c < 256) :
    Calls Tryz.prog 25 #[.int .u8 c] w fun e w' => e = .returned (.bool (digN c)) ∧ w' = w := by
  go_enter Tryz.func25, Tryz.ntmps25
  go_wp2
  all_goals go_ret
  all_goals refine ⟨retb ?_, rfl⟩
  all_goals unfold digN
  all_goals rw [Bool.eq_iff_iff]
  all_goals simp
  all_goals omega
set_option maxHeartbeats 1000000 in
theorem inword_any (c : Nat) (w : World) (hc : c < 256) :
    Calls Tryz.prog 29 #[.int .u8 c] w fun e w' => e = .returned (.bool (inwN c)) ∧ w' = w := by
  have A : Hid (∀ W : World, Calls Tryz.prog 24 #[.int .u8 c] W fun e w' => e = .returned (.bool (lowN c)) ∧ w' = W) := fun W => letter_any c W hc
  have D : Hid (∀ W : World, Calls Tryz.prog 25 #[.int .u8 c] W fun e w' => e = .returned (.bool (digN c)) ∧ w' = W) := fun W => digit_any c W hc
  unfold inwN
  generalize lowN c = a at A ⊢
  generalize digN c = b at D ⊢
  cases a
  · cases b
    · go_enter Tryz.func29, Tryz.ntmps29
      go_wp2_with fail
      refine (A.out _).mono ?_
      rintro e w1 ⟨rfl, rfl⟩
      go_wp2_with fail
      refine (D.out _).mono ?_
      rintro e w1 ⟨rfl, rfl⟩
      go_wp2
      all_goals go_ret
      all_goals refine ⟨retb ?_, rfl⟩
      all_goals rw [Bool.eq_iff_iff]
      all_goals simp
      all_goals omega
    · go_enter Tryz.func29, Tryz.ntmps29
      go_wp2_with fail
      refine (A.out _).mono ?_
      rintro e w1 ⟨rfl, rfl⟩
      go_wp2_with fail
      refine (D.out _).mono ?_
      rintro e w1 ⟨rfl, rfl⟩
      go_wp2
      go_ret
      exact ⟨rfl, rfl⟩
  · go_enter Tryz.func29, Tryz.ntmps29
    go_wp2_with fail
    refine (A.out _).mono ?_
    rintro e w1 ⟨rfl, rfl⟩
    go_wp2
    go_ret
    exact ⟨rfl, rfl⟩
theorem peek_any (s : ByteArray) (i : Nat) (w : World) :
    Calls Tryz.prog 26 #[.string s, .int .i64 i] w fun e w' => e = .returned (.int .u8 (hd (s.data.toList.drop i))) ∧ w' = w := by
  by_cases h : i < s.size
  · rw [hd_drop s i h]
    go_enter Tryz.func26, Tryz.ntmps26
    go_wp2
    go_ret
    exact ⟨rfl, rfl⟩
  · rw [hd_end s i (by omega)]
    go_enter Tryz.func26, Tryz.ntmps26
    go_wp2
    go_ret
    exact ⟨rfl, rfl⟩
end Go.Proofs.YtmegombglkcccaaGreatDoor

namespace Go.Proofs.YtmegombglkcccaaGreatDoor
open Go.RowKit LX

def intAt (a : Act) (i : Nat) : Int := match a.tmps.getD i undef with | .int _ q => q | _ => 0


theorem run_yes (p : Nat → Bool) (h0 : p 0 = false) {l : List UInt8} {e : Nat} (h : p (hd (l.drop e)) = true) : e < l.length ∧ run p (l.drop e) = run p (l.drop (e + 1)) + 1 := by
  by_cases he : e < l.length
  · refine ⟨he, ?_⟩
    rw [List.drop_eq_getElem_cons he] at h ⊢
    simp only [hd] at h
    simp [run, h]
  · rw [List.drop_eq_nil_of_le (by omega)] at h
    rw [hd, h0] at h
    cases h
theorem run_no (p : Nat → Bool) {l : List UInt8} (h : p (hd l) = false) : run p l = 0 := by
  cases l with
  | nil => rfl
  | cons c t => simp only [hd] at h; simp [run, h]
theorem num_yes {l : List UInt8} {e : Nat} (h : digN (hd (l.drop e)) = true) : e < l.length ∧ numLen (l.drop e) = numLen (l.drop (e + 1)) + 1 := by
  obtain ⟨h1, h2⟩ := run_yes digN rfl h
  refine ⟨h1, ?_⟩
  unfold numLen
  rw [h2]
  simp only [List.drop_drop]
  rw [show e + (run digN (l.drop (e + 1)) + 1) = e + 1 + run digN (l.drop (e + 1)) by omega, show e + (run digN (l.drop (e + 1)) + 1 + 1) = e + 1 + (run digN (l.drop (e + 1)) + 1) by omega]
  split <;> omega
theorem num_no {l : List UInt8} {e : Nat} (h : digN (hd (l.drop e)) = false) : numLen (l.drop e) = if hd (l.drop e) = 47 ∧ digN (hd (l.drop (e + 1))) = true then 1 + run digN (l.drop (e + 1)) else 0 := by
  unfold numLen
  rw [run_no digN h]
  simp only [List.drop_drop, Nat.add_zero, Nat.zero_add]

set_option maxRecDepth 100000 in
set_option maxHeartbeats 4000000 in
theorem numeral_any (s : ByteArray) (i : Nat) (w : World) (hs : s.size ≤ 16384) (hi : i ≤ s.size) :
    Calls Tryz.prog 27 #[.string s, .int .i64 i] w fun e w' => e = .returned (.int .i64 (i + numLen (s.data.toList.drop i) : Nat)) ∧ w' = w := by
  have hl : s.data.toList.length = s.size := by simp
  have PK : Hid (∀ (e : Nat) (W : World), Calls Tryz.prog 26 #[.string s, .int .i64 e] W fun x w' => x = .returned (.int .u8 (hd (s.data.toList.drop e))) ∧ w' = W) := fun e W => peek_any s e W
  have DG : Hid (∀ (e : Nat) (W : World), Calls Tryz.prog 25 #[.int .u8 (hd (s.data.toList.drop e))] W fun x w' => x = .returned (.bool (digN (hd (s.data.toList.drop e)))) ∧ w' = W) := fun e W => digit_any _ W (hd_lt _)
  obtain ⟨R, eR⟩ : ∃ R, Hid (i + numLen (s.data.toList.drop i) = R) := ⟨_, rfl⟩
  rw [eR.out]
  go_enter Tryz.func27, Tryz.ntmps27
  go_wp2
  refine wp_scope_from 0 (fun l a w' => w' = w ∧ ∃ (e : Nat) (u2 u3 u4 u5 u6 u7 u8 u9 u10 u11 u12 u13 u14 u15 u16 u17 u18 u19 u20 u21 u22 u23 u24 u25 u26 u27 u28 u29 u30 u31 : Value), a = { tmps := #[.string s, .int .i64 (e : Nat), u2, u3, u4, u5, u6, u7, u8, u9, u10, u11, u12, u13, u14, u15, u16, u17, u18, u19, u20, u21, u22, u23, u24, u25, u26, u27, u28, u29, u30, u31], defers := [] } ∧ e ≤ s.size ∧ ((l = 0 ∧ Hid (e + numLen (s.data.toList.drop e) = R)) ∨ (l = 1 ∧ Hid (e + run digN (s.data.toList.drop e) = R)))) (fun _ a _ => (s.size - intAt a 1).toNat) rfl ?_ ?_
  · exact ⟨rfl, i, _, _, _, _, _, _, _, _, _, _, _, _, _, _, _, _, _, _, _, _, _, _, _, _, _, _, _, _, _, _, rfl, hi, .inl ⟨rfl, eR⟩⟩
  · rintro l a w' ⟨rfl, e, u2, u3, u4, u5, u6, u7, u8, u9, u10, u11, u12, u13, u14, u15, u16, u17, u18, u19, u20, u21, u22, u23, u24, u25, u26, u27, u28, u29, u30, u31, rfl, he, ⟨rfl, hR⟩ | ⟨rfl, hR⟩⟩
    · refine ⟨_, rfl, ?_⟩
      go_wp2_with fail
      refine (PK.out e _).mono ?_
      rintro x w1 ⟨rfl, rfl⟩
      go_wp2_with fail
      refine (DG.out e _).mono ?_
      rintro x w1 ⟨rfl, rfl⟩
      cases hd0 : digN (hd (s.data.toList.drop e))
      · go_wp2_with fail
        refine (PK.out e _).mono ?_
        rintro x w1 ⟨rfl, rfl⟩
        by_cases h47 : hd (s.data.toList.drop e) = 47
        · have h47' : ((hd (s.data.toList.drop e) : Nat) : Int) = 47 := by omega
          have hlt : e < s.size := by
            apply Classical.byContradiction
            intro hn
            rw [hd_end s e (by omega)] at h47
            cases h47
          go_wp2_with fail
          refine (PK.out (e + 1) _).mono ?_
          rintro x w1 ⟨rfl, rfl⟩
          go_wp2_with fail
          refine (DG.out (e + 1) _).mono ?_
          rintro x w1 ⟨rfl, rfl⟩
          cases hd1 : digN (hd (s.data.toList.drop (e + 1)))
          · go_wp2
            have hr := num_no hd0
            rw [if_neg (by rw [hd1]; simp)] at hr
            have hR' := hR.out
            simp only [Exit.jumps]
            go_ret
            exact ⟨reti (by omega), rfl⟩
          · go_wp2
            go_step3
            have hr := num_no hd0
            rw [if_pos ⟨h47, hd1⟩] at hr
            have hR' := hR.out
            refine ⟨⟨rfl, e + 1, _, _, _, _, _, _, _, _, _, _, _, _, _, _, _, _, _, _, _, _, _, _, _, _, _, _, _, _, _, _, rfl, by omega, .inr ⟨rfl, (show _ = _ by omega)⟩⟩, ?_⟩
            simp [intAt]
            omega
        · have h47' : ¬ ((hd (s.data.toList.drop e) : Nat) : Int) = 47 := by omega
          go_wp2
          have hr := num_no hd0
          rw [if_neg (by intro hx; exact h47 hx.1)] at hr
          have hR' := hR.out
          simp only [Exit.jumps]
          go_ret
          exact ⟨reti (by omega), rfl⟩
      · obtain ⟨g1, g2⟩ := num_yes hd0
        rw [hl] at g1
        go_wp2
        go_step3
        have hR' := hR.out
        refine ⟨⟨rfl, e + 1, _, _, _, _, _, _, _, _, _, _, _, _, _, _, _, _, _, _, _, _, _, _, _, _, _, _, _, _, _, _, rfl, by omega, .inl ⟨rfl, (show _ = _ by omega)⟩⟩, ?_⟩
        simp [intAt]
        omega
    · refine ⟨_, rfl, ?_⟩
      go_wp2_with fail
      refine (PK.out e _).mono ?_
      rintro x w1 ⟨rfl, rfl⟩
      go_wp2_with fail
      refine (DG.out e _).mono ?_
      rintro x w1 ⟨rfl, rfl⟩
      cases hd0 : digN (hd (s.data.toList.drop e))
      · go_wp2
        have hr := run_no digN hd0
        have hR' := hR.out
        simp only [Exit.jumps]
        go_ret
        exact ⟨reti (by omega), rfl⟩
      · obtain ⟨g1, g2⟩ := run_yes digN rfl hd0
        rw [hl] at g1
        go_wp2
        go_step3
        have hR' := hR.out
        refine ⟨⟨rfl, e + 1, _, _, _, _, _, _, _, _, _, _, _, _, _, _, _, _, _, _, _, _, _, _, _, _, _, _, _, _, _, _, rfl, by omega, .inr ⟨rfl, (show _ = _ by omega)⟩⟩, ?_⟩
        simp [intAt]
        omega
end Go.Proofs.YtmegombglkcccaaGreatDoor

namespace Go.Proofs.YtmegombglkcccaaGreatDoor
open Go.RowKit LX

theorem qend_nil (b : Bool) (l : List UInt8) (e : Nat) (h : l.length ≤ e) : qend b (l.drop e) = none := by
  rw [List.drop_eq_nil_of_le h]; cases b <;> rfl
theorem qend_pair (s : ByteArray) (e : Nat) (h : e < s.size) : qend true (s.data.toList.drop e) = (qend false (s.data.toList.drop (e + 1))).map (· + 1) := by
  have h' : e < s.data.toList.length := by simpa using h
  rw [List.drop_eq_getElem_cons h']; rfl
theorem qend_step (s : ByteArray) (e : Nat) (h : e < s.size) : qend false (s.data.toList.drop e) = if s[e].toNat = 34 then some 1 else (qend (s[e].toNat == 92) (s.data.toList.drop (e + 1))).map (· + 1) := by
  have h' : e < s.data.toList.length := by simpa using h
  rw [List.drop_eq_getElem_cons h']; rfl
theorem map_next (x : Option Nat) (e : Nat) : (x.map (· + 1)).map (e + ·) = x.map (e + 1 + ·) := by
  cases x with
  | none => rfl
  | some k => simp; omega

set_option maxRecDepth 100000 in
set_option maxHeartbeats 4000000 in
theorem quoted_any (s : ByteArray) (i : Nat) (w : World) (hs : s.size ≤ 16384) (hi : i ≤ s.size) :
    Calls Tryz.prog 28 #[.string s, .int .i64 i] w fun e w' => e = .returned (.tuple #[.int .i64 (((qend false (s.data.toList.drop i)).map (i + ·)).elim 0 fun _ => 6), .int .i64 (((qend false (s.data.toList.drop i)).map (i + ·)).elim 0 fun k => (k : Int))]) ∧ w' = w := by
  have hl : s.data.toList.length = s.size := by simp
  obtain ⟨R, eR⟩ : ∃ R, Hid ((qend false (s.data.toList.drop i)).map (i + ·) = R) := ⟨_, rfl⟩
  rw [eR.out]
  go_enter Tryz.func28, Tryz.ntmps28
  go_wp2
  refine wp_scope_from 0 (fun l a w' => w' = w ∧ ∃ (e : Nat) (u2 u3 u4 u5 u6 u7 u8 u9 u10 u11 u12 u13 u14 u15 u16 u17 u18 u19 u20 u21 u22 u23 u24 u25 u26 : Value), a = { tmps := #[.string s, .int .i64 (e : Nat), u2, u3, u4, u5, u6, u7, u8, u9, u10, u11, u12, u13, u14, u15, u16, u17, u18, u19, u20, u21, u22, u23, u24, u25, u26], defers := [] } ∧ e ≤ s.size ∧ ((l = 0 ∧ Hid ((qend false (s.data.toList.drop e)).map (e + ·) = R)) ∨ (l = 1 ∧ Hid ((qend true (s.data.toList.drop e)).map (e + ·) = R)))) (fun _ a _ => (s.size - intAt a 1).toNat) rfl ?_ ?_
  · exact ⟨rfl, i, _, _, _, _, _, _, _, _, _, _, _, _, _, _, _, _, _, _, _, _, _, _, _, _, _, rfl, hi, .inl ⟨rfl, eR⟩⟩
  · rintro l a w' ⟨rfl, e, u2, u3, u4, u5, u6, u7, u8, u9, u10, u11, u12, u13, u14, u15, u16, u17, u18, u19, u20, u21, u22, u23, u24, u25, u26, rfl, he, ⟨rfl, hR⟩ | ⟨rfl, hR⟩⟩
    · refine ⟨_, rfl, ?_⟩
      by_cases hn : e = s.size
      · have hn' : (e : Int) = s.size := by omega
        have hR' := hR.out
        rw [qend_nil _ _ _ (by omega)] at hR'
        simp at hR'
        subst hR'
        go_wp2
        simp only [Exit.jumps]
        refine bodyPost_ret (by simp [results, Tryz.results28, go_sem]; try rfl) rfl ?_
        exact ⟨rfl, rfl⟩
      · have hlt : e < s.size := by omega
        have hn' : ¬ (e : Int) = s.size := by omega
        have hR' := hR.out
        rw [qend_step s e hlt] at hR'
        clear hR
        by_cases h34 : s[e].toNat = 34
        · have h34' : ((s[e].toNat : Nat) : Int) = 34 := by omega
          rw [if_pos h34] at hR'
          simp at hR'
          subst hR'
          go_wp2
          simp only [Exit.jumps]
          refine bodyPost_ret (by simp [results, Tryz.results28, go_sem]; try rfl) rfl ?_
          exact ⟨rfl, rfl⟩
        · have h34' : ¬ ((s[e].toNat : Nat) : Int) = 34 := by omega
          rw [if_neg h34, map_next] at hR'
          by_cases h92 : s[e].toNat = 92
          · have h92' : ((s[e].toNat : Nat) : Int) = 92 := by omega
            rw [show (s[e].toNat == 92) = true by rw [h92]; rfl] at hR'
            go_wp2
            go_step3
            refine ⟨⟨rfl, e + 1, _, _, _, _, _, _, _, _, _, _, _, _, _, _, _, _, _, _, _, _, _, _, _, _, _, rfl, by omega, .inr ⟨rfl, hR'⟩⟩, ?_⟩
            simp [intAt]
            omega
          · have h92' : ¬ ((s[e].toNat : Nat) : Int) = 92 := by omega
            rw [show (s[e].toNat == 92) = false by simpa using h92] at hR'
            go_wp2
            go_step3
            refine ⟨⟨rfl, e + 1, _, _, _, _, _, _, _, _, _, _, _, _, _, _, _, _, _, _, _, _, _, _, _, _, _, rfl, by omega, .inl ⟨rfl, hR'⟩⟩, ?_⟩
            simp [intAt]
            omega
    · refine ⟨_, rfl, ?_⟩
      by_cases hn : e = s.size
      · have hn' : (e : Int) = s.size := by omega
        have hR' := hR.out
        rw [qend_nil _ _ _ (by omega)] at hR'
        simp at hR'
        subst hR'
        go_wp2
        simp only [Exit.jumps]
        refine bodyPost_ret (by simp [results, Tryz.results28, go_sem]; try rfl) rfl ?_
        exact ⟨rfl, rfl⟩
      · have hlt : e < s.size := by omega
        have hn' : ¬ (e : Int) = s.size := by omega
        have hR' := hR.out
        rw [qend_pair s e hlt, map_next] at hR'
        clear hR
        go_wp2
        go_step3
        refine ⟨⟨rfl, e + 1, _, _, _, _, _, _, _, _, _, _, _, _, _, _, _, _, _, _, _, _, _, _, _, _, _, rfl, by omega, .inl ⟨rfl, hR'⟩⟩, ?_⟩
        simp [intAt]
        omega
end Go.Proofs.YtmegombglkcccaaGreatDoor

namespace Go.Proofs.YtmegombglkcccaaGreatDoor
open Go.RowKit LX
set_option linter.unusedVariables false

theorem brk_nil (l : List UInt8) (e : Nat) (h : l.length ≤ e) : brk (l.drop e) = none := by
  rw [List.drop_eq_nil_of_le h]; rfl
theorem brk_step (s : ByteArray) (e : Nat) (h : e < s.size) : brk (s.data.toList.drop e) = if s[e].toNat = 93 then some 1 else (brk (s.data.toList.drop (e + 1))).map (· + 1) := by
  have h' : e < s.data.toList.length := by simpa using h
  rw [List.drop_eq_getElem_cons h']; rfl
/-- A frame of behind: the text, and the place that has been reached. -/
structure FrB (a : Act) (s : ByteArray) (e : Nat) : Prop where
  d : a.defers = []
  n : a.tmps.size = 100
  x0 : a.tmps[0]? = some (.string s)
  x5 : a.tmps[5]? = some (.int .i64 e)
theorem list_of (n : Nat) (l : List Value) (h : l.length = n) : l = (List.range n).map (fun i => l.getD i undef) := by
  subst h
  apply List.ext_getElem
  · simp
  · intro i h1 h2
    simp [List.getD, List.getElem?_eq_getElem h1]
theorem FrB.lit {a : Act} {s : ByteArray} {e : Nat} (h : FrB a s e) : ∃ u : Nat → Value, a = { tmps := #[.string s, u 1, u 2, u 3, u 4, .int .i64 (e : Nat), u 6, u 7, u 8, u 9, u 10, u 11, u 12, u 13, u 14, u 15, u 16, u 17, u 18, u 19, u 20, u 21, u 22, u 23, u 24, u 25, u 26, u 27, u 28, u 29, u 30, u 31, u 32, u 33, u 34, u 35, u 36, u 37, u 38, u 39, u 40, u 41, u 42, u 43, u 44, u 45, u 46, u 47, u 48, u 49, u 50, u 51, u 52, u 53, u 54, u 55, u 56, u 57, u 58, u 59, u 60, u 61, u 62, u 63, u 64, u 65, u 66, u 67, u 68, u 69, u 70, u 71, u 72, u 73, u 74, u 75, u 76, u 77, u 78, u 79, u 80, u 81, u 82, u 83, u 84, u 85, u 86, u 87, u 88, u 89, u 90, u 91, u 92, u 93, u 94, u 95, u 96, u 97, u 98, u 99], defers := [] } := by
  obtain ⟨t, d⟩ := a
  obtain ⟨h1, h2, h3, h4⟩ := h
  dsimp only at h1 h2 h3 h4
  subst h1
  obtain ⟨l⟩ := t
  have h2' : l.length = 100 := by simpa using h2
  have hl := list_of 100 l h2'
  have e0 : l.getD 0 undef = .string s := by have : l[0]? = some (Value.string s) := by simpa using h3
                                             simp [List.getD, this]
  have e5 : l.getD 5 undef = .int .i64 e := by have : l[5]? = some (Value.int .i64 e) := by simpa using h4
                                               simp [List.getD, this]
  refine ⟨fun i => l.getD i undef, ?_⟩
  rw [← e0, ← e5]
  congr 1
  exact congrArg Array.mk hl
theorem drop_at (s : ByteArray) (i : Nat) (h : i < s.size) : s.data.toList.drop i = s[i] :: s.data.toList.drop (i + 1) := by
  have h' : i < s.data.toList.length := by simpa using h
  rw [List.drop_eq_getElem_cons h']; rfl
set_option maxRecDepth 100000 in
set_option maxHeartbeats 4000000 in
theorem behind_40 (s : ByteArray) (i : Nat) (w : World) (hs : s.size ≤ 16384) (hi : i < s.size) (h : s[i].toNat = 40) :
    Calls Tryz.prog 11 #[.string s, .int .i64 i] w fun e w' => e = .returned (.tuple #[.int .i64 1, .int .i64 ((i + 1 : Nat) : Int)]) ∧ w' = w := by
  have hl : s.data.toList.length = s.size := by simp
  have h40' : ((s[i].toNat : Nat) : Int) = 40 := by omega
  go_enter Tryz.func11, Tryz.ntmps11
  go_wp2
  refine wp_scope_gotos (fun _ _ _ => False) (fun _ _ _ => 0) ?_ ?_
  · intro l a w h; exact h.elim
  · intro _
    go_wp2
    simp only [Exit.jumps]
    refine bodyPost_ret (by simp [results, Tryz.results11, go_sem]; try rfl) rfl ?_
    exact ⟨rfl, rfl⟩
set_option maxRecDepth 100000 in
set_option maxHeartbeats 4000000 in
theorem behind_41 (s : ByteArray) (i : Nat) (w : World) (hs : s.size ≤ 16384) (hi : i < s.size) (h : s[i].toNat = 41) :
    Calls Tryz.prog 11 #[.string s, .int .i64 i] w fun e w' => e = .returned (.tuple #[.int .i64 2, .int .i64 ((i + 1 : Nat) : Int)]) ∧ w' = w := by
  have hl : s.data.toList.length = s.size := by simp
  have h41' : ((s[i].toNat : Nat) : Int) = 41 := by omega
  have n40 : ¬ ((s[i].toNat : Nat) : Int) = 40 := by omega
  go_enter Tryz.func11, Tryz.ntmps11
  go_wp2
  refine wp_scope_gotos (fun _ _ _ => False) (fun _ _ _ => 0) ?_ ?_
  · intro l a w h; exact h.elim
  · intro _
    go_wp2
    simp only [Exit.jumps]
    refine bodyPost_ret (by simp [results, Tryz.results11, go_sem]; try rfl) rfl ?_
    exact ⟨rfl, rfl⟩
set_option maxRecDepth 100000 in
set_option maxHeartbeats 4000000 in
theorem behind_dig (s : ByteArray) (i : Nat) (w : World) (hs : s.size ≤ 16384) (hi : i < s.size) (hA : lowN s[i].toNat = false) (hD : digN s[i].toNat = true) :
    Calls Tryz.prog 11 #[.string s, .int .i64 i] w fun e w' => e = .returned (.tuple #[.int .i64 6, .int .i64 ((i + 1 + numLen (s.data.toList.drop (i + 1)) : Nat) : Int)]) ∧ w' = w := by
  have hl : s.data.toList.length = s.size := by simp
  have hDD : 48 ≤ s[i].toNat ∧ s[i].toNat ≤ 57 := by simpa [digN] using hD
  have n40 : ¬ ((s[i].toNat : Nat) : Int) = 40 := by omega
  have n41 : ¬ ((s[i].toNat : Nat) : Int) = 41 := by omega
  have A : Hid (∀ (v : Int) (W : World), v = (s[i].toNat : Int) → Calls Tryz.prog 24 #[.int .u8 v] W fun e w' => e = .returned (.bool false) ∧ w' = W) := fun v W h => by
    rw [h]; have q := letter_any s[i].toNat W s[i].toNat_lt; rw [hA] at q; exact q
  have D : Hid (∀ (v : Int) (W : World), v = (s[i].toNat : Int) → Calls Tryz.prog 25 #[.int .u8 v] W fun e w' => e = .returned (.bool true) ∧ w' = W) := fun v W h => by
    rw [h]; have q := digit_any s[i].toNat W s[i].toNat_lt; rw [hD] at q; exact q
  have NU : Hid (∀ W : World, Calls Tryz.prog 27 #[.string s, .int .i64 ((i + 1 : Nat) : Int)] W fun e w' => e = .returned (.int .i64 (i + 1 + numLen (s.data.toList.drop (i + 1)) : Nat)) ∧ w' = W) := fun W => numeral_any s (i + 1) W hs (by omega)
  go_enter Tryz.func11, Tryz.ntmps11
  go_wp2
  refine wp_scope_gotos (fun _ _ _ => False) (fun _ _ _ => 0) ?_ ?_
  · intro l a w h; exact h.elim
  · intro _
    go_wp2_with fail
    refine (A.out _ _ (by omega)).mono ?_
    rintro x w1 ⟨rfl, rfl⟩
    go_wp2_with fail
    refine (D.out _ _ (by omega)).mono ?_
    rintro x w1 ⟨rfl, rfl⟩
    go_wp2_with fail
    refine (NU.out _).mono ?_
    rintro x w1 ⟨rfl, rfl⟩
    go_wp2
    simp only [Exit.jumps]
    refine bodyPost_ret (by simp [results, Tryz.results11, go_sem]; try rfl) rfl ?_
    exact ⟨rfl, rfl⟩
set_option maxRecDepth 100000 in
set_option maxHeartbeats 4000000 in
theorem behind_neg (s : ByteArray) (i : Nat) (w : World) (hs : s.size ≤ 16384) (hi : i < s.size) (hA : lowN s[i].toNat = false) (hD : digN s[i].toNat = false) (h : s[i].toNat = 45) (hP : digN (hd (s.data.toList.drop (i + 1))) = true) :
    Calls Tryz.prog 11 #[.string s, .int .i64 i] w fun e w' => e = .returned (.tuple #[.int .i64 6, .int .i64 ((i + 1 + numLen (s.data.toList.drop (i + 1)) : Nat) : Int)]) ∧ w' = w := by
  have hl : s.data.toList.length = s.size := by simp
  have h45' : ((s[i].toNat : Nat) : Int) = 45 := by omega
  have n40 : ¬ ((s[i].toNat : Nat) : Int) = 40 := by omega
  have n41 : ¬ ((s[i].toNat : Nat) : Int) = 41 := by omega
  have A : Hid (∀ (v : Int) (W : World), v = (s[i].toNat : Int) → Calls Tryz.prog 24 #[.int .u8 v] W fun e w' => e = .returned (.bool false) ∧ w' = W) := fun v W h => by
    rw [h]; have q := letter_any s[i].toNat W s[i].toNat_lt; rw [hA] at q; exact q
  have D : Hid (∀ (v : Int) (W : World), v = (s[i].toNat : Int) → Calls Tryz.prog 25 #[.int .u8 v] W fun e w' => e = .returned (.bool false) ∧ w' = W) := fun v W h => by
    rw [h]; have q := digit_any s[i].toNat W s[i].toNat_lt; rw [hD] at q; exact q
  have PK : Hid (∀ (e : Nat) (W : World), Calls Tryz.prog 26 #[.string s, .int .i64 e] W fun x w' => x = .returned (.int .u8 (hd (s.data.toList.drop e))) ∧ w' = W) := fun e W => peek_any s e W
  have DP : Hid (∀ (v : Int) (W : World), v = (hd (s.data.toList.drop (i + 1)) : Int) → Calls Tryz.prog 25 #[.int .u8 v] W fun x w' => x = .returned (.bool true) ∧ w' = W) := fun v W h => by
    rw [h]; have q := digit_any _ W (hd_lt (s.data.toList.drop (i + 1))); rw [hP] at q; exact q
  have NU : Hid (∀ W : World, Calls Tryz.prog 27 #[.string s, .int .i64 ((i + 1 : Nat) : Int)] W fun e w' => e = .returned (.int .i64 (i + 1 + numLen (s.data.toList.drop (i + 1)) : Nat)) ∧ w' = W) := fun W => numeral_any s (i + 1) W hs (by omega)
  go_enter Tryz.func11, Tryz.ntmps11
  go_wp2
  refine wp_scope_gotos (fun _ _ _ => False) (fun _ _ _ => 0) ?_ ?_
  · intro l a w h; exact h.elim
  · intro _
    go_wp2_with fail
    refine (A.out _ _ (by omega)).mono ?_
    rintro x w1 ⟨rfl, rfl⟩
    go_wp2_with fail
    refine (D.out _ _ (by omega)).mono ?_
    rintro x w1 ⟨rfl, rfl⟩
    go_wp2_with fail
    refine (PK.out (i + 1) _).mono ?_
    rintro x w1 ⟨rfl, rfl⟩
    go_wp2_with fail
    refine (DP.out _ _ (by omega)).mono ?_
    rintro x w1 ⟨rfl, rfl⟩
    go_wp2_with fail
    refine (NU.out _).mono ?_
    rintro x w1 ⟨rfl, rfl⟩
    go_wp2
    simp only [Exit.jumps]
    refine bodyPost_ret (by simp [results, Tryz.results11, go_sem]; try rfl) rfl ?_
    exact ⟨rfl, rfl⟩
set_option maxRecDepth 100000 in
set_option maxHeartbeats 4000000 in
theorem behind_le (s : ByteArray) (i : Nat) (w : World) (hs : s.size ≤ 16384) (hi : i < s.size) (hA : lowN s[i].toNat = false) (hD : digN s[i].toNat = false) (h : s[i].toNat = 60) (hH : hd (s.data.toList.drop (i + 1)) = 61) :
    Calls Tryz.prog 11 #[.string s, .int .i64 i] w fun e w' => e = .returned (.tuple #[.int .i64 4, .int .i64 ((i + 2 : Nat) : Int)]) ∧ w' = w := by
  have hl : s.data.toList.length = s.size := by simp
  have h60' : ((s[i].toNat : Nat) : Int) = 60 := by omega
  have n40 : ¬ ((s[i].toNat : Nat) : Int) = 40 := by omega
  have n41 : ¬ ((s[i].toNat : Nat) : Int) = 41 := by omega
  have n45 : ¬ ((s[i].toNat : Nat) : Int) = 45 := by omega
  have hH' : ((hd (s.data.toList.drop (i + 1)) : Nat) : Int) = 61 := by omega
  have A : Hid (∀ (v : Int) (W : World), v = (s[i].toNat : Int) → Calls Tryz.prog 24 #[.int .u8 v] W fun e w' => e = .returned (.bool false) ∧ w' = W) := fun v W h => by
    rw [h]; have q := letter_any s[i].toNat W s[i].toNat_lt; rw [hA] at q; exact q
  have D : Hid (∀ (v : Int) (W : World), v = (s[i].toNat : Int) → Calls Tryz.prog 25 #[.int .u8 v] W fun e w' => e = .returned (.bool false) ∧ w' = W) := fun v W h => by
    rw [h]; have q := digit_any s[i].toNat W s[i].toNat_lt; rw [hD] at q; exact q
  have PK : Hid (∀ (e : Nat) (W : World), Calls Tryz.prog 26 #[.string s, .int .i64 e] W fun x w' => x = .returned (.int .u8 (hd (s.data.toList.drop e))) ∧ w' = W) := fun e W => peek_any s e W
  go_enter Tryz.func11, Tryz.ntmps11
  go_wp2
  refine wp_scope_gotos (fun _ _ _ => False) (fun _ _ _ => 0) ?_ ?_
  · intro l a w h; exact h.elim
  · intro _
    go_wp2_with fail
    refine (A.out _ _ (by omega)).mono ?_
    rintro x w1 ⟨rfl, rfl⟩
    go_wp2_with fail
    refine (D.out _ _ (by omega)).mono ?_
    rintro x w1 ⟨rfl, rfl⟩
    go_wp2_with fail
    refine (PK.out (i + 1) _).mono ?_
    rintro x w1 ⟨rfl, rfl⟩
    go_wp2
    simp only [Exit.jumps]
    refine bodyPost_ret (by simp [results, Tryz.results11, go_sem]; try rfl) rfl ?_
    exact ⟨rfl, rfl⟩
set_option maxRecDepth 100000 in
set_option maxHeartbeats 4000000 in
theorem behind_61 (s : ByteArray) (i : Nat) (w : World) (hs : s.size ≤ 16384) (hi : i < s.size) (hA : lowN s[i].toNat = false) (hD : digN s[i].toNat = false) (h : s[i].toNat = 61) :
    Calls Tryz.prog 11 #[.string s, .int .i64 i] w fun e w' => e = .returned (.tuple #[.int .i64 4, .int .i64 ((i + 1 : Nat) : Int)]) ∧ w' = w := by
  have hl : s.data.toList.length = s.size := by simp
  have h61' : ((s[i].toNat : Nat) : Int) = 61 := by omega
  have n40 : ¬ ((s[i].toNat : Nat) : Int) = 40 := by omega
  have n41 : ¬ ((s[i].toNat : Nat) : Int) = 41 := by omega
  have n45 : ¬ ((s[i].toNat : Nat) : Int) = 45 := by omega
  have n60 : ¬ ((s[i].toNat : Nat) : Int) = 60 := by omega
  have n43 : ¬ ((s[i].toNat : Nat) : Int) = 43 := by omega
  have n42 : ¬ ((s[i].toNat : Nat) : Int) = 42 := by omega
  have A : Hid (∀ (v : Int) (W : World), v = (s[i].toNat : Int) → Calls Tryz.prog 24 #[.int .u8 v] W fun e w' => e = .returned (.bool false) ∧ w' = W) := fun v W h => by
    rw [h]; have q := letter_any s[i].toNat W s[i].toNat_lt; rw [hA] at q; exact q
  have D : Hid (∀ (v : Int) (W : World), v = (s[i].toNat : Int) → Calls Tryz.prog 25 #[.int .u8 v] W fun e w' => e = .returned (.bool false) ∧ w' = W) := fun v W h => by
    rw [h]; have q := digit_any s[i].toNat W s[i].toNat_lt; rw [hD] at q; exact q
  go_enter Tryz.func11, Tryz.ntmps11
  go_wp2
  refine wp_scope_gotos (fun _ _ _ => False) (fun _ _ _ => 0) ?_ ?_
  · intro l a w h; exact h.elim
  · intro _
    go_wp2_with fail
    refine (A.out _ _ (by omega)).mono ?_
    rintro x w1 ⟨rfl, rfl⟩
    go_wp2_with fail
    refine (D.out _ _ (by omega)).mono ?_
    rintro x w1 ⟨rfl, rfl⟩
    go_wp2
    simp only [Exit.jumps]
    refine bodyPost_ret (by simp [results, Tryz.results11, go_sem]; try rfl) rfl ?_
    exact ⟨rfl, rfl⟩
set_option maxRecDepth 100000 in
set_option maxHeartbeats 4000000 in
theorem behind_43 (s : ByteArray) (i : Nat) (w : World) (hs : s.size ≤ 16384) (hi : i < s.size) (hA : lowN s[i].toNat = false) (hD : digN s[i].toNat = false) (h : s[i].toNat = 43) :
    Calls Tryz.prog 11 #[.string s, .int .i64 i] w fun e w' => e = .returned (.tuple #[.int .i64 4, .int .i64 ((i + 1 : Nat) : Int)]) ∧ w' = w := by
  have hl : s.data.toList.length = s.size := by simp
  have h43' : ((s[i].toNat : Nat) : Int) = 43 := by omega
  have n40 : ¬ ((s[i].toNat : Nat) : Int) = 40 := by omega
  have n41 : ¬ ((s[i].toNat : Nat) : Int) = 41 := by omega
  have n45 : ¬ ((s[i].toNat : Nat) : Int) = 45 := by omega
  have n60 : ¬ ((s[i].toNat : Nat) : Int) = 60 := by omega
  have n61 : ¬ ((s[i].toNat : Nat) : Int) = 61 := by omega
  have n42 : ¬ ((s[i].toNat : Nat) : Int) = 42 := by omega
  have A : Hid (∀ (v : Int) (W : World), v = (s[i].toNat : Int) → Calls Tryz.prog 24 #[.int .u8 v] W fun e w' => e = .returned (.bool false) ∧ w' = W) := fun v W h => by
    rw [h]; have q := letter_any s[i].toNat W s[i].toNat_lt; rw [hA] at q; exact q
  have D : Hid (∀ (v : Int) (W : World), v = (s[i].toNat : Int) → Calls Tryz.prog 25 #[.int .u8 v] W fun e w' => e = .returned (.bool false) ∧ w' = W) := fun v W h => by
    rw [h]; have q := digit_any s[i].toNat W s[i].toNat_lt; rw [hD] at q; exact q
  go_enter Tryz.func11, Tryz.ntmps11
  go_wp2
  refine wp_scope_gotos (fun _ _ _ => False) (fun _ _ _ => 0) ?_ ?_
  · intro l a w h; exact h.elim
  · intro _
    go_wp2_with fail
    refine (A.out _ _ (by omega)).mono ?_
    rintro x w1 ⟨rfl, rfl⟩
    go_wp2_with fail
    refine (D.out _ _ (by omega)).mono ?_
    rintro x w1 ⟨rfl, rfl⟩
    go_wp2
    simp only [Exit.jumps]
    refine bodyPost_ret (by simp [results, Tryz.results11, go_sem]; try rfl) rfl ?_
    exact ⟨rfl, rfl⟩
set_option maxRecDepth 100000 in
set_option maxHeartbeats 4000000 in
theorem behind_42 (s : ByteArray) (i : Nat) (w : World) (hs : s.size ≤ 16384) (hi : i < s.size) (hA : lowN s[i].toNat = false) (hD : digN s[i].toNat = false) (h : s[i].toNat = 42) :
    Calls Tryz.prog 11 #[.string s, .int .i64 i] w fun e w' => e = .returned (.tuple #[.int .i64 4, .int .i64 ((i + 1 : Nat) : Int)]) ∧ w' = w := by
  have hl : s.data.toList.length = s.size := by simp
  have h42' : ((s[i].toNat : Nat) : Int) = 42 := by omega
  have n40 : ¬ ((s[i].toNat : Nat) : Int) = 40 := by omega
  have n41 : ¬ ((s[i].toNat : Nat) : Int) = 41 := by omega
  have n45 : ¬ ((s[i].toNat : Nat) : Int) = 45 := by omega
  have n60 : ¬ ((s[i].toNat : Nat) : Int) = 60 := by omega
  have n61 : ¬ ((s[i].toNat : Nat) : Int) = 61 := by omega
  have n43 : ¬ ((s[i].toNat : Nat) : Int) = 43 := by omega
  have A : Hid (∀ (v : Int) (W : World), v = (s[i].toNat : Int) → Calls Tryz.prog 24 #[.int .u8 v] W fun e w' => e = .returned (.bool false) ∧ w' = W) := fun v W h => by
    rw [h]; have q := letter_any s[i].toNat W s[i].toNat_lt; rw [hA] at q; exact q
  have D : Hid (∀ (v : Int) (W : World), v = (s[i].toNat : Int) → Calls Tryz.prog 25 #[.int .u8 v] W fun e w' => e = .returned (.bool false) ∧ w' = W) := fun v W h => by
    rw [h]; have q := digit_any s[i].toNat W s[i].toNat_lt; rw [hD] at q; exact q
  go_enter Tryz.func11, Tryz.ntmps11
  go_wp2
  refine wp_scope_gotos (fun _ _ _ => False) (fun _ _ _ => 0) ?_ ?_
  · intro l a w h; exact h.elim
  · intro _
    go_wp2_with fail
    refine (A.out _ _ (by omega)).mono ?_
    rintro x w1 ⟨rfl, rfl⟩
    go_wp2_with fail
    refine (D.out _ _ (by omega)).mono ?_
    rintro x w1 ⟨rfl, rfl⟩
    go_wp2
    simp only [Exit.jumps]
    refine bodyPost_ret (by simp [results, Tryz.results11, go_sem]; try rfl) rfl ?_
    exact ⟨rfl, rfl⟩
set_option maxRecDepth 100000 in
set_option maxHeartbeats 4000000 in
theorem behind_lt (s : ByteArray) (i : Nat) (w : World) (hs : s.size ≤ 16384) (hi : i < s.size) (hA : lowN s[i].toNat = false) (hD : digN s[i].toNat = false) (h : s[i].toNat = 60) (hH : ¬ hd (s.data.toList.drop (i + 1)) = 61) :
    Calls Tryz.prog 11 #[.string s, .int .i64 i] w fun e w' => e = .returned (.tuple #[.int .i64 4, .int .i64 ((i + 1 : Nat) : Int)]) ∧ w' = w := by
  have hl : s.data.toList.length = s.size := by simp
  have h60' : ((s[i].toNat : Nat) : Int) = 60 := by omega
  have n40 : ¬ ((s[i].toNat : Nat) : Int) = 40 := by omega
  have n41 : ¬ ((s[i].toNat : Nat) : Int) = 41 := by omega
  have n45 : ¬ ((s[i].toNat : Nat) : Int) = 45 := by omega
  have n61 : ¬ ((s[i].toNat : Nat) : Int) = 61 := by omega
  have n43 : ¬ ((s[i].toNat : Nat) : Int) = 43 := by omega
  have n42 : ¬ ((s[i].toNat : Nat) : Int) = 42 := by omega
  have hH' : ¬ ((hd (s.data.toList.drop (i + 1)) : Nat) : Int) = 61 := by omega
  have A : Hid (∀ (v : Int) (W : World), v = (s[i].toNat : Int) → Calls Tryz.prog 24 #[.int .u8 v] W fun e w' => e = .returned (.bool false) ∧ w' = W) := fun v W h => by
    rw [h]; have q := letter_any s[i].toNat W s[i].toNat_lt; rw [hA] at q; exact q
  have D : Hid (∀ (v : Int) (W : World), v = (s[i].toNat : Int) → Calls Tryz.prog 25 #[.int .u8 v] W fun e w' => e = .returned (.bool false) ∧ w' = W) := fun v W h => by
    rw [h]; have q := digit_any s[i].toNat W s[i].toNat_lt; rw [hD] at q; exact q
  have PK : Hid (∀ (e : Nat) (W : World), Calls Tryz.prog 26 #[.string s, .int .i64 e] W fun x w' => x = .returned (.int .u8 (hd (s.data.toList.drop e))) ∧ w' = W) := fun e W => peek_any s e W
  go_enter Tryz.func11, Tryz.ntmps11
  go_wp2
  refine wp_scope_gotos (fun _ _ _ => False) (fun _ _ _ => 0) ?_ ?_
  · intro l a w h; exact h.elim
  · intro _
    go_wp2_with fail
    refine (A.out _ _ (by omega)).mono ?_
    rintro x w1 ⟨rfl, rfl⟩
    go_wp2_with fail
    refine (D.out _ _ (by omega)).mono ?_
    rintro x w1 ⟨rfl, rfl⟩
    go_wp2_with fail
    refine (PK.out (i + 1) _).mono ?_
    rintro x w1 ⟨rfl, rfl⟩
    go_wp2
    simp only [Exit.jumps]
    refine bodyPost_ret (by simp [results, Tryz.results11, go_sem]; try rfl) rfl ?_
    exact ⟨rfl, rfl⟩
set_option maxRecDepth 100000 in
set_option maxHeartbeats 4000000 in
theorem behind_45 (s : ByteArray) (i : Nat) (w : World) (hs : s.size ≤ 16384) (hi : i < s.size) (hA : lowN s[i].toNat = false) (hD : digN s[i].toNat = false) (h : s[i].toNat = 45) (hP : digN (hd (s.data.toList.drop (i + 1))) = false) :
    Calls Tryz.prog 11 #[.string s, .int .i64 i] w fun e w' => e = .returned (.tuple #[.int .i64 4, .int .i64 ((i + 1 : Nat) : Int)]) ∧ w' = w := by
  have hl : s.data.toList.length = s.size := by simp
  have h45' : ((s[i].toNat : Nat) : Int) = 45 := by omega
  have n40 : ¬ ((s[i].toNat : Nat) : Int) = 40 := by omega
  have n41 : ¬ ((s[i].toNat : Nat) : Int) = 41 := by omega
  have n60 : ¬ ((s[i].toNat : Nat) : Int) = 60 := by omega
  have n61 : ¬ ((s[i].toNat : Nat) : Int) = 61 := by omega
  have n43 : ¬ ((s[i].toNat : Nat) : Int) = 43 := by omega
  have n42 : ¬ ((s[i].toNat : Nat) : Int) = 42 := by omega
  have A : Hid (∀ (v : Int) (W : World), v = (s[i].toNat : Int) → Calls Tryz.prog 24 #[.int .u8 v] W fun e w' => e = .returned (.bool false) ∧ w' = W) := fun v W h => by
    rw [h]; have q := letter_any s[i].toNat W s[i].toNat_lt; rw [hA] at q; exact q
  have D : Hid (∀ (v : Int) (W : World), v = (s[i].toNat : Int) → Calls Tryz.prog 25 #[.int .u8 v] W fun e w' => e = .returned (.bool false) ∧ w' = W) := fun v W h => by
    rw [h]; have q := digit_any s[i].toNat W s[i].toNat_lt; rw [hD] at q; exact q
  have PK : Hid (∀ (e : Nat) (W : World), Calls Tryz.prog 26 #[.string s, .int .i64 e] W fun x w' => x = .returned (.int .u8 (hd (s.data.toList.drop e))) ∧ w' = W) := fun e W => peek_any s e W
  have DP : Hid (∀ (v : Int) (W : World), v = (hd (s.data.toList.drop (i + 1)) : Int) → Calls Tryz.prog 25 #[.int .u8 v] W fun x w' => x = .returned (.bool false) ∧ w' = W) := fun v W h => by
    rw [h]; have q := digit_any _ W (hd_lt (s.data.toList.drop (i + 1))); rw [hP] at q; exact q
  go_enter Tryz.func11, Tryz.ntmps11
  go_wp2
  refine wp_scope_gotos (fun _ _ _ => False) (fun _ _ _ => 0) ?_ ?_
  · intro l a w h; exact h.elim
  · intro _
    go_wp2_with fail
    refine (A.out _ _ (by omega)).mono ?_
    rintro x w1 ⟨rfl, rfl⟩
    go_wp2_with fail
    refine (D.out _ _ (by omega)).mono ?_
    rintro x w1 ⟨rfl, rfl⟩
    go_wp2_with fail
    refine (PK.out (i + 1) _).mono ?_
    rintro x w1 ⟨rfl, rfl⟩
    go_wp2_with fail
    refine (DP.out _ _ (by omega)).mono ?_
    rintro x w1 ⟨rfl, rfl⟩
    go_wp2
    simp only [Exit.jumps]
    refine bodyPost_ret (by simp [results, Tryz.results11, go_sem]; try rfl) rfl ?_
    exact ⟨rfl, rfl⟩
set_option maxRecDepth 100000 in
set_option maxHeartbeats 4000000 in
theorem behind_34 (s : ByteArray) (i : Nat) (w : World) (hs : s.size ≤ 16384) (hi : i < s.size) (hA : lowN s[i].toNat = false) (hD : digN s[i].toNat = false) (h : s[i].toNat = 34) :
    Calls Tryz.prog 11 #[.string s, .int .i64 i] w fun e w' => e = .returned (.tuple #[.int .i64 (((qend false (s.data.toList.drop (i + 1))).map (i + 1 + ·)).elim 0 fun _ => 6), .int .i64 (((qend false (s.data.toList.drop (i + 1))).map (i + 1 + ·)).elim 0 fun k => (k : Int))]) ∧ w' = w := by
  have hl : s.data.toList.length = s.size := by simp
  have h34' : ((s[i].toNat : Nat) : Int) = 34 := by omega
  have n40 : ¬ ((s[i].toNat : Nat) : Int) = 40 := by omega
  have n41 : ¬ ((s[i].toNat : Nat) : Int) = 41 := by omega
  have n45 : ¬ ((s[i].toNat : Nat) : Int) = 45 := by omega
  have n60 : ¬ ((s[i].toNat : Nat) : Int) = 60 := by omega
  have n61 : ¬ ((s[i].toNat : Nat) : Int) = 61 := by omega
  have n43 : ¬ ((s[i].toNat : Nat) : Int) = 43 := by omega
  have n42 : ¬ ((s[i].toNat : Nat) : Int) = 42 := by omega
  have n91 : ¬ ((s[i].toNat : Nat) : Int) = 91 := by omega
  have A : Hid (∀ (v : Int) (W : World), v = (s[i].toNat : Int) → Calls Tryz.prog 24 #[.int .u8 v] W fun e w' => e = .returned (.bool false) ∧ w' = W) := fun v W h => by
    rw [h]; have q := letter_any s[i].toNat W s[i].toNat_lt; rw [hA] at q; exact q
  have D : Hid (∀ (v : Int) (W : World), v = (s[i].toNat : Int) → Calls Tryz.prog 25 #[.int .u8 v] W fun e w' => e = .returned (.bool false) ∧ w' = W) := fun v W h => by
    rw [h]; have q := digit_any s[i].toNat W s[i].toNat_lt; rw [hD] at q; exact q
  obtain ⟨R, eR⟩ : ∃ R, Hid ((qend false (s.data.toList.drop (i + 1))).map (i + 1 + ·) = R) := ⟨_, rfl⟩
  have QU : Hid (∀ W : World, Calls Tryz.prog 28 #[.string s, .int .i64 ((i + 1 : Nat) : Int)] W fun e w' => e = .returned (.tuple #[.int .i64 (R.elim 0 fun _ => 6), .int .i64 (R.elim 0 fun k => (k : Int))]) ∧ w' = W) := fun W => by have q := quoted_any s (i + 1) W hs (by omega); rw [eR.out] at q; exact q
  rw [eR.out]
  obtain ⟨K, eK⟩ : ∃ K : Int, Hid ((R.elim 0 fun _ => 6) = K) := ⟨_, rfl⟩
  obtain ⟨E, eE⟩ : ∃ E : Int, Hid ((R.elim 0 fun k => (k : Int)) = E) := ⟨_, rfl⟩
  rw [eK.out, eE.out] at QU ⊢
  go_enter Tryz.func11, Tryz.ntmps11
  go_wp2
  refine wp_scope_gotos (fun _ _ _ => False) (fun _ _ _ => 0) ?_ ?_
  · intro l a w h; exact h.elim
  · intro _
    go_wp2_with fail
    refine (A.out _ _ (by omega)).mono ?_
    rintro x w1 ⟨rfl, rfl⟩
    go_wp2_with fail
    refine (D.out _ _ (by omega)).mono ?_
    rintro x w1 ⟨rfl, rfl⟩
    go_wp2_with fail
    refine (QU.out _).mono ?_
    rintro x w1 ⟨rfl, rfl⟩
    go_wp2
    simp only [Exit.jumps]
    refine bodyPost_ret (by simp [results, Tryz.results11, go_sem]; try rfl) rfl ?_
    exact ⟨rfl, rfl⟩
set_option maxRecDepth 100000 in
set_option maxHeartbeats 4000000 in
theorem behind_no (s : ByteArray) (i : Nat) (w : World) (hs : s.size ≤ 16384) (hi : i < s.size) (hA : lowN s[i].toNat = false) (hD : digN s[i].toNat = false) (m40 : ¬ s[i].toNat = 40) (m41 : ¬ s[i].toNat = 41) (m45 : ¬ s[i].toNat = 45) (m60 : ¬ s[i].toNat = 60) (m61 : ¬ s[i].toNat = 61) (m43 : ¬ s[i].toNat = 43) (m42 : ¬ s[i].toNat = 42) (m91 : ¬ s[i].toNat = 91) (m34 : ¬ s[i].toNat = 34) (m64 : ¬ s[i].toNat = 64) :
    Calls Tryz.prog 11 #[.string s, .int .i64 i] w fun e w' => e = .returned (.tuple #[.int .i64 0, .int .i64 0]) ∧ w' = w := by
  have hl : s.data.toList.length = s.size := by simp
  have n40 : ¬ ((s[i].toNat : Nat) : Int) = 40 := by omega
  have n41 : ¬ ((s[i].toNat : Nat) : Int) = 41 := by omega
  have n45 : ¬ ((s[i].toNat : Nat) : Int) = 45 := by omega
  have n60 : ¬ ((s[i].toNat : Nat) : Int) = 60 := by omega
  have n61 : ¬ ((s[i].toNat : Nat) : Int) = 61 := by omega
  have n43 : ¬ ((s[i].toNat : Nat) : Int) = 43 := by omega
  have n42 : ¬ ((s[i].toNat : Nat) : Int) = 42 := by omega
  have n91 : ¬ ((s[i].toNat : Nat) : Int) = 91 := by omega
  have n34 : ¬ ((s[i].toNat : Nat) : Int) = 34 := by omega
  have n64 : ¬ ((s[i].toNat : Nat) : Int) = 64 := by omega
  have A : Hid (∀ (v : Int) (W : World), v = (s[i].toNat : Int) → Calls Tryz.prog 24 #[.int .u8 v] W fun e w' => e = .returned (.bool false) ∧ w' = W) := fun v W h => by
    rw [h]; have q := letter_any s[i].toNat W s[i].toNat_lt; rw [hA] at q; exact q
  have D : Hid (∀ (v : Int) (W : World), v = (s[i].toNat : Int) → Calls Tryz.prog 25 #[.int .u8 v] W fun e w' => e = .returned (.bool false) ∧ w' = W) := fun v W h => by
    rw [h]; have q := digit_any s[i].toNat W s[i].toNat_lt; rw [hD] at q; exact q
  go_enter Tryz.func11, Tryz.ntmps11
  go_wp2
  refine wp_scope_gotos (fun _ _ _ => False) (fun _ _ _ => 0) ?_ ?_
  · intro l a w h; exact h.elim
  · intro _
    go_wp2_with fail
    refine (A.out _ _ (by omega)).mono ?_
    rintro x w1 ⟨rfl, rfl⟩
    go_wp2_with fail
    refine (D.out _ _ (by omega)).mono ?_
    rintro x w1 ⟨rfl, rfl⟩
    go_wp2
    simp only [Exit.jumps]
    refine bodyPost_ret (by simp [results, Tryz.results11, go_sem]; try rfl) rfl ?_
    exact ⟨rfl, rfl⟩
set_option maxRecDepth 100000 in
set_option maxHeartbeats 4000000 in
theorem behind_word (s : ByteArray) (i : Nat) (w : World) (hs : s.size ≤ 16384) (hi : i < s.size) (hA : lowN s[i].toNat = true) :
    Calls Tryz.prog 11 #[.string s, .int .i64 i] w fun e w' => e = .returned (.tuple #[.int .i64 3, .int .i64 ((i + 1 + run inwN (s.data.toList.drop (i + 1)) : Nat) : Int)]) ∧ w' = w := by
  have hl : s.data.toList.length = s.size := by simp
  have hAA : 97 ≤ s[i].toNat ∧ s[i].toNat ≤ 122 := by simpa [lowN] using hA
  have n40 : ¬ ((s[i].toNat : Nat) : Int) = 40 := by omega
  have n41 : ¬ ((s[i].toNat : Nat) : Int) = 41 := by omega
  have A : Hid (∀ (v : Int) (W : World), v = (s[i].toNat : Int) → Calls Tryz.prog 24 #[.int .u8 v] W fun e w' => e = .returned (.bool true) ∧ w' = W) := fun v W h => by
    rw [h]; have q := letter_any s[i].toNat W s[i].toNat_lt; rw [hA] at q; exact q
  have PK : Hid (∀ (e : Nat) (W : World), Calls Tryz.prog 26 #[.string s, .int .i64 e] W fun x w' => x = .returned (.int .u8 (hd (s.data.toList.drop e))) ∧ w' = W) := fun e W => peek_any s e W
  have IW : Hid (∀ (e : Nat) (W : World), Calls Tryz.prog 29 #[.int .u8 (hd (s.data.toList.drop e))] W fun x w' => x = .returned (.bool (inwN (hd (s.data.toList.drop e)))) ∧ w' = W) := fun e W => inword_any _ W (hd_lt _)
  obtain ⟨R, eR⟩ : ∃ R, Hid (i + 1 + run inwN (s.data.toList.drop (i + 1)) = R) := ⟨_, rfl⟩
  rw [eR.out]
  go_enter Tryz.func11, Tryz.ntmps11
  go_wp2
  refine wp_scope_gotos (fun l a w' => w' = w ∧ ∃ e : Nat, FrB a s e ∧ e ≤ s.size ∧ l = 0 ∧ Hid (e + run inwN (s.data.toList.drop e) = R)) (fun _ a _ => (s.size - intAt a 5).toNat) ?_ ?_
  · rintro l a w' ⟨rfl, e, hF, he, rfl, hR⟩
    obtain ⟨u, rfl⟩ := hF.lit
    refine ⟨_, rfl, ?_⟩
    go_wp2_with fail
    refine (PK.out e _).mono ?_
    rintro x w1 ⟨rfl, rfl⟩
    go_wp2_with fail
    refine (IW.out e _).mono ?_
    rintro x w1 ⟨rfl, rfl⟩
    cases hd0 : inwN (hd (s.data.toList.drop e))
    · go_wp2
      have hr := run_no inwN hd0
      have hR' := hR.out
      have hRe : R = e := by omega
      subst hRe
      simp only [Exit.jumps]
      refine bodyPost_ret (by simp [results, Tryz.results11, go_sem]; try rfl) rfl ?_
      exact ⟨rfl, rfl⟩
    · obtain ⟨g1, g2⟩ := run_yes inwN rfl hd0
      rw [hl] at g1
      go_wp2
      go_step3
      have hR' := hR.out
      refine ⟨⟨rfl, e + 1, ⟨rfl, rfl, rfl, rfl⟩, by omega, rfl, (show _ = _ by omega)⟩, ?_⟩
      simp [intAt]
      omega
  · intro _
    go_wp2_with fail
    refine (A.out _ _ (by omega)).mono ?_
    rintro x w1 ⟨rfl, rfl⟩
    go_wp2
    go_step3
    exact ⟨rfl, i + 1, ⟨rfl, rfl, rfl, rfl⟩, by omega, rfl, eR⟩
set_option maxRecDepth 100000 in
set_option maxHeartbeats 4000000 in
theorem behind_time (s : ByteArray) (i : Nat) (w : World) (hs : s.size ≤ 16384) (hi : i < s.size) (hA : lowN s[i].toNat = false) (hD : digN s[i].toNat = false) (h : s[i].toNat = 64) :
    Calls Tryz.prog 11 #[.string s, .int .i64 i] w fun e w' => e = .returned (.tuple #[.int .i64 7, .int .i64 ((i + 1 + run digN (s.data.toList.drop (i + 1)) : Nat) : Int)]) ∧ w' = w := by
  have hl : s.data.toList.length = s.size := by simp
  have h64' : ((s[i].toNat : Nat) : Int) = 64 := by omega
  have n40 : ¬ ((s[i].toNat : Nat) : Int) = 40 := by omega
  have n41 : ¬ ((s[i].toNat : Nat) : Int) = 41 := by omega
  have n45 : ¬ ((s[i].toNat : Nat) : Int) = 45 := by omega
  have n60 : ¬ ((s[i].toNat : Nat) : Int) = 60 := by omega
  have n61 : ¬ ((s[i].toNat : Nat) : Int) = 61 := by omega
  have n43 : ¬ ((s[i].toNat : Nat) : Int) = 43 := by omega
  have n42 : ¬ ((s[i].toNat : Nat) : Int) = 42 := by omega
  have n91 : ¬ ((s[i].toNat : Nat) : Int) = 91 := by omega
  have n34 : ¬ ((s[i].toNat : Nat) : Int) = 34 := by omega
  have A : Hid (∀ (v : Int) (W : World), v = (s[i].toNat : Int) → Calls Tryz.prog 24 #[.int .u8 v] W fun e w' => e = .returned (.bool false) ∧ w' = W) := fun v W h => by
    rw [h]; have q := letter_any s[i].toNat W s[i].toNat_lt; rw [hA] at q; exact q
  have D : Hid (∀ (v : Int) (W : World), v = (s[i].toNat : Int) → Calls Tryz.prog 25 #[.int .u8 v] W fun e w' => e = .returned (.bool false) ∧ w' = W) := fun v W h => by
    rw [h]; have q := digit_any s[i].toNat W s[i].toNat_lt; rw [hD] at q; exact q
  have PK : Hid (∀ (e : Nat) (W : World), Calls Tryz.prog 26 #[.string s, .int .i64 e] W fun x w' => x = .returned (.int .u8 (hd (s.data.toList.drop e))) ∧ w' = W) := fun e W => peek_any s e W
  have DG : Hid (∀ (e : Nat) (W : World), Calls Tryz.prog 25 #[.int .u8 (hd (s.data.toList.drop e))] W fun x w' => x = .returned (.bool (digN (hd (s.data.toList.drop e)))) ∧ w' = W) := fun e W => digit_any _ W (hd_lt _)
  obtain ⟨R, eR⟩ : ∃ R, Hid (i + 1 + run digN (s.data.toList.drop (i + 1)) = R) := ⟨_, rfl⟩
  rw [eR.out]
  go_enter Tryz.func11, Tryz.ntmps11
  go_wp2
  refine wp_scope_gotos (fun l a w' => w' = w ∧ ∃ e : Nat, FrB a s e ∧ e ≤ s.size ∧ l = 2 ∧ Hid (e + run digN (s.data.toList.drop e) = R)) (fun _ a _ => (s.size - intAt a 5).toNat) ?_ ?_
  · rintro l a w' ⟨rfl, e, hF, he, rfl, hR⟩
    obtain ⟨u, rfl⟩ := hF.lit
    refine ⟨_, rfl, ?_⟩
    go_wp2_with fail
    refine (PK.out e _).mono ?_
    rintro x w1 ⟨rfl, rfl⟩
    go_wp2_with fail
    refine (DG.out e _).mono ?_
    rintro x w1 ⟨rfl, rfl⟩
    cases hd0 : digN (hd (s.data.toList.drop e))
    · go_wp2
      have hr := run_no digN hd0
      have hR' := hR.out
      have hRe : R = e := by omega
      subst hRe
      simp only [Exit.jumps]
      refine bodyPost_ret (by simp [results, Tryz.results11, go_sem]; try rfl) rfl ?_
      exact ⟨rfl, rfl⟩
    · obtain ⟨g1, g2⟩ := run_yes digN rfl hd0
      rw [hl] at g1
      go_wp2
      go_step3
      have hR' := hR.out
      refine ⟨⟨rfl, e + 1, ⟨rfl, rfl, rfl, rfl⟩, by omega, rfl, (show _ = _ by omega)⟩, ?_⟩
      simp [intAt]
      omega
  · intro _
    go_wp2_with fail
    refine (A.out _ _ (by omega)).mono ?_
    rintro x w1 ⟨rfl, rfl⟩
    go_wp2_with fail
    refine (D.out _ _ (by omega)).mono ?_
    rintro x w1 ⟨rfl, rfl⟩
    go_wp2
    go_step3
    exact ⟨rfl, i + 1, ⟨rfl, rfl, rfl, rfl⟩, by omega, rfl, eR⟩
set_option maxRecDepth 100000 in
set_option maxHeartbeats 4000000 in
theorem behind_91 (s : ByteArray) (i : Nat) (w : World) (hs : s.size ≤ 16384) (hi : i < s.size) (hA : lowN s[i].toNat = false) (hD : digN s[i].toNat = false) (h : s[i].toNat = 91) :
    Calls Tryz.prog 11 #[.string s, .int .i64 i] w fun e w' => e = .returned (.tuple #[.int .i64 (((brk (s.data.toList.drop (i + 1))).map (i + 1 + ·)).elim 0 fun _ => 5), .int .i64 (((brk (s.data.toList.drop (i + 1))).map (i + 1 + ·)).elim 0 fun k => (k : Int))]) ∧ w' = w := by
  have hl : s.data.toList.length = s.size := by simp
  have h91' : ((s[i].toNat : Nat) : Int) = 91 := by omega
  have n40 : ¬ ((s[i].toNat : Nat) : Int) = 40 := by omega
  have n41 : ¬ ((s[i].toNat : Nat) : Int) = 41 := by omega
  have n45 : ¬ ((s[i].toNat : Nat) : Int) = 45 := by omega
  have n60 : ¬ ((s[i].toNat : Nat) : Int) = 60 := by omega
  have n61 : ¬ ((s[i].toNat : Nat) : Int) = 61 := by omega
  have n43 : ¬ ((s[i].toNat : Nat) : Int) = 43 := by omega
  have n42 : ¬ ((s[i].toNat : Nat) : Int) = 42 := by omega
  have A : Hid (∀ (v : Int) (W : World), v = (s[i].toNat : Int) → Calls Tryz.prog 24 #[.int .u8 v] W fun e w' => e = .returned (.bool false) ∧ w' = W) := fun v W h => by
    rw [h]; have q := letter_any s[i].toNat W s[i].toNat_lt; rw [hA] at q; exact q
  have D : Hid (∀ (v : Int) (W : World), v = (s[i].toNat : Int) → Calls Tryz.prog 25 #[.int .u8 v] W fun e w' => e = .returned (.bool false) ∧ w' = W) := fun v W h => by
    rw [h]; have q := digit_any s[i].toNat W s[i].toNat_lt; rw [hD] at q; exact q
  obtain ⟨R, eR⟩ : ∃ R, Hid ((brk (s.data.toList.drop (i + 1))).map (i + 1 + ·) = R) := ⟨_, rfl⟩
  rw [eR.out]
  go_enter Tryz.func11, Tryz.ntmps11
  go_wp2
  refine wp_scope_gotos (fun l a w' => w' = w ∧ ∃ e : Nat, FrB a s e ∧ e ≤ s.size ∧ l = 1 ∧ Hid ((brk (s.data.toList.drop e)).map (e + ·) = R)) (fun _ a _ => (s.size - intAt a 5).toNat) ?_ ?_
  · rintro l a w' ⟨rfl, e, hF, he, rfl, hR⟩
    obtain ⟨u, rfl⟩ := hF.lit
    refine ⟨_, rfl, ?_⟩
    by_cases hn : e = s.size
    · have hn' : (e : Int) = s.size := by omega
      have hR' := hR.out
      rw [brk_nil _ _ (by omega)] at hR'
      simp at hR'
      subst hR'
      go_wp2
      simp only [Exit.jumps]
      refine bodyPost_ret (by simp [results, Tryz.results11, go_sem]; try rfl) rfl ?_
      exact ⟨rfl, rfl⟩
    · have hlt : e < s.size := by omega
      have hn' : ¬ (e : Int) = s.size := by omega
      have hR' := hR.out
      rw [brk_step s e hlt] at hR'
      clear hR
      by_cases h93 : s[e].toNat = 93
      · have h93' : ((s[e].toNat : Nat) : Int) = 93 := by omega
        rw [if_pos h93] at hR'
        simp at hR'
        subst hR'
        go_wp2
        simp only [Exit.jumps]
        refine bodyPost_ret (by simp [results, Tryz.results11, go_sem]; try rfl) rfl ?_
        exact ⟨rfl, rfl⟩
      · have h93' : ¬ ((s[e].toNat : Nat) : Int) = 93 := by omega
        rw [if_neg h93, map_next] at hR'
        go_wp2
        go_step3
        refine ⟨⟨rfl, e + 1, ⟨rfl, rfl, rfl, rfl⟩, by omega, rfl, hR'⟩, ?_⟩
        simp [intAt]
        omega
  · intro _
    go_wp2_with fail
    refine (A.out _ _ (by omega)).mono ?_
    rintro x w1 ⟨rfl, rfl⟩
    go_wp2_with fail
    refine (D.out _ _ (by omega)).mono ?_
    rintro x w1 ⟨rfl, rfl⟩
    go_wp2
    go_step3
    exact ⟨rfl, i + 1, ⟨rfl, rfl, rfl, rfl⟩, by omega, rfl, eR⟩
/-- behind at every place of a text. -/
theorem behind_any (s : ByteArray) (i : Nat) (w : World) (hs : s.size ≤ 16384) (hi : i < s.size) :
    Calls Tryz.prog 11 #[.string s, .int .i64 i] w fun e w' => e = .returned (.tuple #[.int .i64 ((beh (s.data.toList.drop i)).1 : Nat), .int .i64 ((if (beh (s.data.toList.drop i)).1 = 0 then 0 else i + (beh (s.data.toList.drop i)).2 : Nat) : Int)]) ∧ w' = w := by
  have hd0 := drop_at s i hi
  by_cases h1 : s[i].toNat = 40
  · have e : beh (s.data.toList.drop i) = (1, 1) := by rw [hd0, beh_cons, if_pos h1]
    rw [e]; exact behind_40 s i w hs hi h1
  by_cases h2 : s[i].toNat = 41
  · have e : beh (s.data.toList.drop i) = (2, 1) := by rw [hd0, beh_cons, if_neg h1, if_pos h2]
    rw [e]; exact behind_41 s i w hs hi h2
  cases hA : lowN s[i].toNat
  · have h3 : ¬ lowN s[i].toNat = true := by rw [hA]; simp
    cases hD : digN s[i].toNat
    · by_cases h45 : s[i].toNat = 45
      · cases hP : digN (hd (s.data.toList.drop (i + 1)))
        · have e : beh (s.data.toList.drop i) = (4, 1) := by rw [hd0, beh_cons, if_neg h1, if_neg h2, if_neg h3, if_neg (by rw [hD, hP]; simp), if_neg (by omega), if_pos (by omega)]
          rw [e]; exact behind_45 s i w hs hi hA hD h45 hP
        · have e : beh (s.data.toList.drop i) = (6, 1 + numLen (s.data.toList.drop (i + 1))) := by rw [hd0, beh_cons, if_neg h1, if_neg h2, if_neg h3, if_pos (by rw [hP, h45]; simp)]
          rw [e]; have q := behind_neg s i w hs hi hA hD h45 hP
          rw [Nat.add_assoc] at q; exact q
      · have h4 : ¬ (digN s[i].toNat || (s[i].toNat == 45 && digN (hd (s.data.toList.drop (i + 1))))) = true := by rw [hD]; simp [h45]
        by_cases h60 : s[i].toNat = 60
        · by_cases hH : hd (s.data.toList.drop (i + 1)) = 61
          · have e : beh (s.data.toList.drop i) = (4, 2) := by rw [hd0, beh_cons, if_neg h1, if_neg h2, if_neg h3, if_neg h4, if_pos ⟨h60, hH⟩]
            rw [e]; exact behind_le s i w hs hi hA hD h60 hH
          · have e : beh (s.data.toList.drop i) = (4, 1) := by rw [hd0, beh_cons, if_neg h1, if_neg h2, if_neg h3, if_neg h4, if_neg (fun x => hH x.2), if_pos (by omega)]
            rw [e]; exact behind_lt s i w hs hi hA hD h60 hH
        · have h5 : ¬ (s[i].toNat = 60 ∧ hd (s.data.toList.drop (i + 1)) = 61) := fun x => h60 x.1
          by_cases h61 : s[i].toNat = 61
          · have e : beh (s.data.toList.drop i) = (4, 1) := by rw [hd0, beh_cons, if_neg h1, if_neg h2, if_neg h3, if_neg h4, if_neg h5, if_pos (by omega)]
            rw [e]; exact behind_61 s i w hs hi hA hD h61
          by_cases h43 : s[i].toNat = 43
          · have e : beh (s.data.toList.drop i) = (4, 1) := by rw [hd0, beh_cons, if_neg h1, if_neg h2, if_neg h3, if_neg h4, if_neg h5, if_pos (by omega)]
            rw [e]; exact behind_43 s i w hs hi hA hD h43
          by_cases h42 : s[i].toNat = 42
          · have e : beh (s.data.toList.drop i) = (4, 1) := by rw [hd0, beh_cons, if_neg h1, if_neg h2, if_neg h3, if_neg h4, if_neg h5, if_pos (by omega)]
            rw [e]; exact behind_42 s i w hs hi hA hD h42
          have h6 : ¬ (s[i].toNat = 61 ∨ s[i].toNat = 43 ∨ s[i].toNat = 42 ∨ s[i].toNat = 60 ∨ s[i].toNat = 45) := by omega
          by_cases h91 : s[i].toNat = 91
          · have q := behind_91 s i w hs hi hA hD h91
            cases hb : brk (s.data.toList.drop (i + 1)) with
            | none =>
              have e : beh (s.data.toList.drop i) = (0, 0) := by rw [hd0, beh_cons, if_neg h1, if_neg h2, if_neg h3, if_neg h4, if_neg h5, if_neg h6, if_pos h91, hb]; rfl
              rw [hb] at q; rw [e]; exact q
            | some k =>
              have e : beh (s.data.toList.drop i) = (5, 1 + k) := by rw [hd0, beh_cons, if_neg h1, if_neg h2, if_neg h3, if_neg h4, if_neg h5, if_neg h6, if_pos h91, hb]; rfl
              rw [hb] at q; rw [e]; simp only [Option.map, Option.elim] at q; rw [Nat.add_assoc] at q; exact q
          by_cases h34 : s[i].toNat = 34
          · have q := behind_34 s i w hs hi hA hD h34
            cases hb : qend false (s.data.toList.drop (i + 1)) with
            | none =>
              have e : beh (s.data.toList.drop i) = (0, 0) := by rw [hd0, beh_cons, if_neg h1, if_neg h2, if_neg h3, if_neg h4, if_neg h5, if_neg h6, if_neg h91, if_pos h34, hb]; rfl
              rw [hb] at q; rw [e]; exact q
            | some k =>
              have e : beh (s.data.toList.drop i) = (6, 1 + k) := by rw [hd0, beh_cons, if_neg h1, if_neg h2, if_neg h3, if_neg h4, if_neg h5, if_neg h6, if_neg h91, if_pos h34, hb]; rfl
              rw [hb] at q; rw [e]; simp only [Option.map, Option.elim] at q; rw [Nat.add_assoc] at q; exact q
          by_cases h64 : s[i].toNat = 64
          · have e : beh (s.data.toList.drop i) = (7, 1 + run digN (s.data.toList.drop (i + 1))) := by rw [hd0, beh_cons, if_neg h1, if_neg h2, if_neg h3, if_neg h4, if_neg h5, if_neg h6, if_neg h91, if_neg h34, if_pos h64]
            rw [e]; have q := behind_time s i w hs hi hA hD h64
            rw [Nat.add_assoc] at q; exact q
          · have e : beh (s.data.toList.drop i) = (0, 0) := by rw [hd0, beh_cons, if_neg h1, if_neg h2, if_neg h3, if_neg h4, if_neg h5, if_neg h6, if_neg h91, if_neg h34, if_neg h64]
            rw [e]; exact behind_no s i w hs hi hA hD h1 h2 h45 h60 h61 h43 h42 h91 h34 h64
    · have e : beh (s.data.toList.drop i) = (6, 1 + numLen (s.data.toList.drop (i + 1))) := by rw [hd0, beh_cons, if_neg h1, if_neg h2, if_neg h3, if_pos (by rw [hD]; simp)]
      rw [e]; have q := behind_dig s i w hs hi hA hD
      rw [Nat.add_assoc] at q; exact q
  · have e : beh (s.data.toList.drop i) = (3, 1 + run inwN (s.data.toList.drop (i + 1))) := by rw [hd0, beh_cons, if_neg h1, if_neg h2, if_pos hA]
    rw [e]; have q := behind_word s i w hs hi hA
    rw [Nat.add_assoc] at q; exact q
end Go.Proofs.YtmegombglkcccaaGreatDoor

namespace Go.Proofs.YtmegombglkcccaaGreatDoor
open Go.RowKit LX
set_option linter.unusedVariables false

def ivR : Value → Int | .int _ q => q | _ => 0
theorem rdigit_any (c : Nat) (w : World) (hc : c < 256) :
    Calls Tryz.prog 16 #[.int .u8 c] w fun e w' => e = .returned (.bool (digN c)) ∧ w' = w := by
  go_enter Tryz.func16, Tryz.ntmps16
  go_wp2
  all_goals go_ret
  all_goals refine ⟨retb ?_, rfl⟩
  all_goals unfold digN
  all_goals rw [Bool.eq_iff_iff]
  all_goals simp
  all_goals omega
theorem rsmall_any (c : Nat) (w : World) (hc : c < 256) :
    Calls Tryz.prog 14 #[.int .u8 c] w fun e w' => e = .returned (.bool (lowN c)) ∧ w' = w := by
  go_enter Tryz.func14, Tryz.ntmps14
  go_wp2
  all_goals go_ret
  all_goals refine ⟨retb ?_, rfl⟩
  all_goals unfold lowN
  all_goals rw [Bool.eq_iff_iff]
  all_goals simp
  all_goals omega

theorem run_size (p : Nat → Bool) (s : ByteArray) (k : Nat) (hk : k < s.size) : run p (s.data.toList.drop k) = if p s[k].toNat then run p (s.data.toList.drop (k + 1)) + 1 else 0 := by
  rw [drop_at s k hk]; rfl
theorem run_over (p : Nat → Bool) (s : ByteArray) (k : Nat) (hk : s.size ≤ k) : run p (s.data.toList.drop k) = 0 := by
  rw [List.drop_eq_nil_of_le (by simpa using hk)]; rfl
set_option maxRecDepth 100000 in
set_option maxHeartbeats 4000000 in
theorem rdigits_any (s : ByteArray) (i : Nat) (w : World) (hs : s.size ≤ 16384) (hi : i ≤ s.size) :
    Calls Tryz.prog 22 #[.string s, .int .i64 i] w fun e w' => e = .returned (.int .i64 (i + run digN (s.data.toList.drop i) : Nat)) ∧ w' = w := by
  obtain ⟨R, eR⟩ : ∃ R, Hid (i + run digN (s.data.toList.drop i) = R) := ⟨_, rfl⟩
  rw [eR.out]
  have DG : Hid (∀ (c : Nat) (W : World), c < 256 → Calls Tryz.prog 16 #[.int .u8 c] W fun x w' => x = .returned (.bool (digN c)) ∧ w' = W) := fun c W h => rdigit_any c W h
  go_enter Tryz.func22, Tryz.ntmps22
  go_wp2
  go_loopw [1] (fun v wr => ∃ k : Nat, v = .int .i64 k ∧ k ≤ s.size ∧ wr = w ∧ Hid (k + run digN (s.data.toList.drop k) = R)) (fun v _ => s.size - (ivR v).toNat)
  case atStart => exact ⟨i, rfl, hi, rfl, eR⟩
  case round =>
    obtain ⟨k, rfl, hk, rfl, hR⟩ := hrel
    by_cases hlt : k < s.size
    · have c1 : (k : Int) < s.size := by omega
      have hr := run_size digN s k hlt
      have hR' := hR.out
      go_wp2_with fail
      refine (DG.out _ _ s[k].toNat_lt).mono ?_
      rintro e w1 ⟨rfl, rfl⟩
      cases hd0 : digN s[k].toNat
      · rw [hd0] at hr
        simp at hr
        go_wp2
        go_ret
        exact ⟨reti (by omega), rfl⟩
      · rw [hd0] at hr
        simp at hr
        go_wp2
        exact ⟨⟨k + 1, by go_num, by omega, trivial, (show _ = _ by omega)⟩, by simp [ivR]; omega⟩
    · have c1 : ¬ (k : Int) < s.size := by omega
      have c2 : ¬ k < s.size := hlt
      have hr := run_over digN s k (by omega)
      have hR' := hR.out
      go_wp2
      go_ret
      exact ⟨reti (by omega), rfl⟩
set_option maxRecDepth 100000 in
set_option maxHeartbeats 4000000 in
theorem rbracket_any (s : ByteArray) (i : Nat) (w : World) (hs : s.size ≤ 16384) (hi : i ≤ s.size) :
    Calls Tryz.prog 18 #[.string s, .int .i64 i] w fun e w' => e = .returned (.int .i64 (((brk (s.data.toList.drop i)).map (i + ·)).elim 0 fun k => (k : Int))) ∧ w' = w := by
  have hl : s.data.toList.length = s.size := by simp
  obtain ⟨R, eR⟩ : ∃ R, Hid ((brk (s.data.toList.drop i)).map (i + ·) = R) := ⟨_, rfl⟩
  rw [eR.out]
  go_enter Tryz.func18, Tryz.ntmps18
  go_wp2
  go_loopw [5] (fun v wr => ∃ k : Nat, v = .int .i64 k ∧ k ≤ s.size ∧ wr = w ∧ Hid ((brk (s.data.toList.drop k)).map (k + ·) = R)) (fun v _ => s.size - (ivR v).toNat)
  case atStart => exact ⟨i, rfl, hi, rfl, eR⟩
  case round =>
    obtain ⟨k, rfl, hk, rfl, hR⟩ := hrel
    by_cases hlt : k < s.size
    · have c1 : (k : Int) < s.size := by omega
      have hR' := hR.out
      rw [brk_step s k hlt] at hR'
      clear hR
      by_cases h93 : s[k].toNat = 93
      · have h93' : ((s[k].toNat : Nat) : Int) = 93 := by omega
        rw [if_pos h93] at hR'
        simp at hR'
        subst hR'
        go_wp2
        go_ret
        exact ⟨rfl, rfl⟩
      · have h93' : ¬ ((s[k].toNat : Nat) : Int) = 93 := by omega
        rw [if_neg h93, map_next] at hR'
        go_wp2
        exact ⟨⟨k + 1, by go_num, by omega, trivial, hR'⟩, by simp [ivR]; omega⟩
    · have c1 : ¬ (k : Int) < s.size := by omega
      have hR' := hR.out
      rw [brk_nil _ _ (by omega)] at hR'
      simp at hR'
      subst hR'
      go_wp2
      go_ret
      exact ⟨rfl, rfl⟩
theorem qend_two (s : ByteArray) (k : Nat) : qend true (s.data.toList.drop (k + 1)) = (qend false (s.data.toList.drop (k + 2))).map (· + 1) := by
  by_cases h : k + 1 < s.size
  · exact qend_pair s (k + 1) h
  · rw [qend_nil _ _ _ (by simp; omega), qend_nil _ _ _ (by simp; omega)]; rfl
set_option maxRecDepth 100000 in
set_option maxHeartbeats 4000000 in
theorem rquote_any (s : ByteArray) (i : Nat) (w : World) (hs : s.size ≤ 16384) (hi : i < s.size) :
    Calls Tryz.prog 20 #[.string s, .int .i64 i] w fun e w' => e = .returned (.int .i64 (((qend false (s.data.toList.drop (i + 1))).map (i + 1 + ·)).elim 0 fun k => (k : Int))) ∧ w' = w := by
  have hl : s.data.toList.length = s.size := by simp
  obtain ⟨R, eR⟩ : ∃ R, Hid ((qend false (s.data.toList.drop (i + 1))).map (i + 1 + ·) = R) := ⟨_, rfl⟩
  rw [eR.out]
  go_enter Tryz.func20, Tryz.ntmps20
  go_wp2
  go_loopw [5] (fun v wr => ∃ k : Nat, v = .int .i64 k ∧ k ≤ s.size + 1 ∧ wr = w ∧ Hid ((qend false (s.data.toList.drop k)).map (k + ·) = R)) (fun v _ => s.size + 2 - (ivR v).toNat)
  case atStart => exact ⟨i + 1, by go_num, by omega, rfl, eR⟩
  case round =>
    obtain ⟨k, rfl, hk, rfl, hR⟩ := hrel
    by_cases hlt : k < s.size
    · have c1 : (k : Int) < s.size := by omega
      have hR' := hR.out
      rw [qend_step s k hlt] at hR'
      clear hR
      by_cases h34 : s[k].toNat = 34
      · have h34' : ((s[k].toNat : Nat) : Int) = 34 := by omega
        rw [if_pos h34] at hR'
        simp at hR'
        subst hR'
        go_wp2
        go_ret
        exact ⟨rfl, rfl⟩
      · have h34' : ¬ ((s[k].toNat : Nat) : Int) = 34 := by omega
        rw [if_neg h34, map_next] at hR'
        by_cases h92 : s[k].toNat = 92
        · have h92' : ((s[k].toNat : Nat) : Int) = 92 := by omega
          rw [show (s[k].toNat == 92) = true by rw [h92]; rfl, qend_two, map_next] at hR'
          go_wp2
          exact ⟨⟨k + 2, by go_num, by omega, trivial, hR'⟩, by simp [ivR]; omega⟩
        · have h92' : ¬ ((s[k].toNat : Nat) : Int) = 92 := by omega
          rw [show (s[k].toNat == 92) = false by simpa using h92] at hR'
          go_wp2
          exact ⟨⟨k + 1, by go_num, by omega, trivial, hR'⟩, by simp [ivR]; omega⟩
    · have c1 : ¬ (k : Int) < s.size := by omega
      have hR' := hR.out
      rw [qend_nil _ _ _ (by omega)] at hR'
      simp at hR'
      subst hR'
      go_wp2
      go_ret
      exact ⟨rfl, rfl⟩
set_option maxRecDepth 100000 in
set_option maxHeartbeats 4000000 in
theorem rword_any (s : ByteArray) (i : Nat) (w : World) (hs : s.size ≤ 16384) (hi : i ≤ s.size) :
    Calls Tryz.prog 15 #[.string s, .int .i64 i] w fun e w' => e = .returned (.int .i64 (i + run inwN (s.data.toList.drop i) : Nat)) ∧ w' = w := by
  obtain ⟨R, eR⟩ : ∃ R, Hid (i + run inwN (s.data.toList.drop i) = R) := ⟨_, rfl⟩
  rw [eR.out]
  go_enter Tryz.func15, Tryz.ntmps15
  go_wp2
  go_loopw [1] (fun v wr => ∃ k : Nat, v = .int .i64 k ∧ k ≤ s.size ∧ wr = w ∧ Hid (k + run inwN (s.data.toList.drop k) = R)) (fun v _ => s.size - (ivR v).toNat)
  case atStart => exact ⟨i, rfl, hi, rfl, eR⟩
  case round =>
    obtain ⟨k, rfl, hk, rfl, hR⟩ := hrel
    by_cases hlt : k < s.size
    · have c1 : (k : Int) < s.size := by omega
      have hr := run_size inwN s k hlt
      have hR' := hR.out
      have DG : Hid (∀ W : World, Calls Tryz.prog 16 #[.int .u8 s[k].toNat] W fun x w' => x = .returned (.bool (digN s[k].toNat)) ∧ w' = W) := fun W => rdigit_any _ W s[k].toNat_lt
      have SM : Hid (∀ W : World, Calls Tryz.prog 14 #[.int .u8 s[k].toNat] W fun x w' => x = .returned (.bool (lowN s[k].toNat)) ∧ w' = W) := fun W => rsmall_any _ W s[k].toNat_lt
      cases hA : lowN s[k].toNat
      · rw [hA] at SM
        cases hD : digN s[k].toNat
        · rw [hD] at DG
          by_cases h95 : s[k].toNat = 95
          · have b95 : ((s[k].toNat : Int) == 95) = true := by simp; omega
            have hin : inwN s[k].toNat = true := by unfold inwN; rw [h95]; rfl
            rw [hin] at hr
            simp at hr
            have SM5 : Hid (∀ (v : Int) (W : World), v = s[k].toNat → Calls Tryz.prog 14 #[.int .u8 v] W fun x w' => x = .returned (.bool false) ∧ w' = W) := fun v W h => by rw [h]; exact SM.out W
            have DG5 : Hid (∀ (v : Int) (W : World), v = s[k].toNat → Calls Tryz.prog 16 #[.int .u8 v] W fun x w' => x = .returned (.bool false) ∧ w' = W) := fun v W h => by rw [h]; exact DG.out W
            go_wp2_with fail
            refine (SM5.out _ _ (by omega)).mono ?_
            rintro e w1 ⟨rfl, rfl⟩
            go_wp2_with fail
            refine (DG5.out _ _ (by omega)).mono ?_
            rintro e w1 ⟨rfl, rfl⟩
            go_wp2
            exact ⟨⟨k + 1, by go_num, by omega, trivial, (show _ = _ by omega)⟩, by simp [ivR]; omega⟩
          · have b95 : ((s[k].toNat : Int) == 95) = false := by simp; omega
            have n95 : (s[k].toNat == 95) = false := by simpa using h95
            have hin : inwN s[k].toNat = false := by unfold inwN; rw [hA, hD, n95]; rfl
            rw [hin] at hr
            simp at hr
            go_wp2_with fail
            refine (SM.out _).mono ?_
            rintro e w1 ⟨rfl, rfl⟩
            go_wp2_with fail
            refine (DG.out _).mono ?_
            rintro e w1 ⟨rfl, rfl⟩
            go_wp2
            go_ret
            exact ⟨reti (by omega), rfl⟩
        · rw [hD] at DG
          have hin : inwN s[k].toNat = true := by unfold inwN; rw [hA, hD]; rfl
          rw [hin] at hr
          simp at hr
          go_wp2_with fail
          refine (SM.out _).mono ?_
          rintro e w1 ⟨rfl, rfl⟩
          go_wp2_with fail
          refine (DG.out _).mono ?_
          rintro e w1 ⟨rfl, rfl⟩
          go_wp2
          exact ⟨⟨k + 1, by go_num, by omega, trivial, (show _ = _ by omega)⟩, by simp [ivR]; omega⟩
      · rw [hA] at SM
        have hin : inwN s[k].toNat = true := by unfold inwN; rw [hA]; rfl
        rw [hin] at hr
        simp at hr
        go_wp2_with fail
        refine (SM.out _).mono ?_
        rintro e w1 ⟨rfl, rfl⟩
        go_wp2
        exact ⟨⟨k + 1, by go_num, by omega, trivial, (show _ = _ by omega)⟩, by simp [ivR]; omega⟩
    · have c1 : ¬ (k : Int) < s.size := by omega
      have c2 : ¬ k < s.size := hlt
      have hr := run_over inwN s k (by omega)
      have hR' := hR.out
      go_wp2
      go_ret
      exact ⟨reti (by omega), rfl⟩
end Go.Proofs.YtmegombglkcccaaGreatDoor

namespace Go.Proofs.YtmegombglkcccaaGreatDoor

/-- How far a number is from 0. -/
def sz (n : Int) : Int := (n.natAbs : Int)
/-- The greatest common divisor of two numbers from 0 on. -/
def gc (a b : Int) : Int := ((Nat.gcd a.toNat b.toNat : Nat) : Int)

theorem sz_of_neg {n : Int} (h : n < 0) : sz n = -n := by unfold sz; omega
theorem sz_of_nonneg {n : Int} (h : 0 ≤ n) : sz n = n := by unfold sz; omega
theorem sz_nonneg (n : Int) : 0 ≤ sz n := by unfold sz; omega
theorem sz_le {n : Int} (h1 : -9223372036854775808 ≤ n) (h2 : n ≤ 9223372036854775807) : sz n ≤ 9223372036854775808 := by unfold sz; omega
theorem gc_nonneg (a b : Int) : 0 ≤ gc a b := by unfold gc; omega
theorem gc_zero (a : Int) (h : 0 ≤ a) : gc a 0 = a := by unfold gc; simp; omega
theorem gc_step (a b : Int) (ha : 0 ≤ a) (hb : 0 < b) : gc b (a % b) = gc a b := by
  unfold gc
  have e : (a % b).toNat = a.toNat % b.toNat := by
    obtain ⟨x, rfl⟩ := Int.eq_ofNat_of_zero_le ha
    obtain ⟨y, rfl⟩ := Int.eq_ofNat_of_zero_le (Int.le_of_lt hb)
    simp [← Int.natCast_emod]
  rw [e, Nat.gcd_comm b.toNat, ← Nat.gcd_rec, Nat.gcd_comm]

/-- A number by its sign and size. -/
def sg (b : Bool) (n : Int) : Int := if b then -n else n
/-- Does a fraction in its least form fit 64 bits? What is told of it: N, D, the error. -/
def okF (p q : Int) : Bool := decide (-9223372036854775808 ≤ p ∧ p ≤ 9223372036854775807 ∧ q ≤ 9223372036854775807)
def outN (p q : Int) : Int := if okF p q then p else 0
def outD (p q : Int) : Int := if okF p q then q else 0
def outE (p q : Int) : Int := if okF p q then 0 else 10

/-- p / q, q above 0, in its least form, if that fits. -/
def rN (p q : Int) : Int := outN (p / gc (sz p) q) (q / gc (sz p) q)
def rD (p q : Int) : Int := outD (p / gc (sz p) q) (q / gc (sz p) q)
def rE (p q : Int) : Int := outE (p / gc (sz p) q) (q / gc (sz p) q)

theorem sz_sg (b : Bool) (n : Int) : sz (sg b n) = sz n := by unfold sz sg; split <;> omega
theorem gc_pos (a b : Int) (hb : 0 < b) : 0 < gc a b := by
  unfold gc
  have : 0 < Nat.gcd a.toNat b.toNat := Nat.gcd_pos_of_pos_right _ (by omega)
  omega
theorem gc_le (a b : Int) (hb : 0 < b) : gc a b ≤ b := by
  unfold gc
  have : Nat.gcd a.toNat b.toNat ≤ b.toNat := Nat.gcd_le_right _ (by omega)
  omega
theorem gc_dvd_left (a b : Int) (ha : 0 ≤ a) : gc a b ∣ a := by
  unfold gc
  have h := Int.natCast_dvd_natCast.2 (Nat.gcd_dvd_left a.toNat b.toNat)
  have e : ((a.toNat : Nat) : Int) = a := by omega
  rwa [e] at h
theorem gc_dvd_right (a b : Int) (hb : 0 ≤ b) : gc a b ∣ b := by
  unfold gc
  have h := Int.natCast_dvd_natCast.2 (Nat.gcd_dvd_right a.toNat b.toNat)
  have e : ((b.toNat : Nat) : Int) = b := by omega
  rwa [e] at h
theorem sg_div (b : Bool) (n g : Int) (h : g ∣ n) : sg b (n / g) = sg b n / g := by
  unfold sg; split
  · exact (Int.neg_ediv_of_dvd h).symm
  · rfl
theorem sg_sz (n : Int) (b : Bool) : sg (decide (n < 0) != b) (sz n) = sg b n := by
  unfold sg sz
  by_cases h : n < 0 <;> cases b <;> simp [h] <;> omega
theorem div_le_self (a g : Int) (ha : 0 ≤ a) (hg : 0 < g) : a / g ≤ a := by
  have h1 := Int.ediv_mul_le a (show g ≠ 0 by omega)
  have h2 : 0 ≤ a / g := Int.ediv_nonneg ha (by omega)
  have h3 : a / g * 1 ≤ a / g * g := Int.mul_le_mul_of_nonneg_left (by omega) h2
  omega

end Go.Proofs.YtmegombglkcccaaGreatDoor

namespace Go.Proofs.YtmegombglkcccaaGreatDoor
open Go.RowKit

theorem ret_int {k : IntKind} {a b : Int} (h : a = b) : Ending.returned (.int k a) = .returned (.int k b) := by rw [h]

theorem bdrewN {B : Nat} {a w : World} (n : Nat) (h : Below B a w) : Below B a (w.drewN n) := ⟨h.os, h.tape, h.output, h.size, h.block⟩

/-- What a caller knows of the world behind a callee that only makes new memory: old cells and marks, the heap's size, and that nothing older has turned. -/
theorem bf {w W w1 : World} (h0 : Below w.heap.size w W) (hb : Below W.heap.size W w1) :
    (∀ b o, b < W.heap.size → w1.cell? ⟨b, o, none⟩ = W.cell? ⟨b, o, none⟩) ∧ (∀ b o, b < W.heap.size → w1.frozen? ⟨b, o, none⟩ = W.frozen? ⟨b, o, none⟩) ∧ W.heap.size ≤ w1.heap.size ∧ Below w.heap.size w w1 :=
  ⟨fun b o h => hb.cell (p := ⟨b, o, none⟩) h, fun b o h => hb.frozen (p := ⟨b, o, none⟩) h, hb.size, h0.trans (hb.mono h0.size)⟩

set_option maxHeartbeats 400000 in
theorem size_any (n : Int) (w : World) (h1 : -9223372036854775808 ≤ n) (h2 : n ≤ 9223372036854775807) :
    Calls Tryz.prog 62 #[.int .i64 n] w fun e w' => e = .returned (.int .u64 (sz n)) ∧ w' = w := by
  by_cases h : n < 0
  · go_enter Tryz.func62, Tryz.ntmps62
    go_wp2
    go_ret
    exact ⟨ret_int (by rw [sz_of_neg h]; go_arith), rfl⟩
  · have h' : 0 ≤ n := by omega
    go_enter Tryz.func62, Tryz.ntmps62
    go_wp2
    go_ret
    exact ⟨ret_int (by rw [sz_of_nonneg h']), rfl⟩

set_option maxHeartbeats 400000 in
theorem divisor_any (a b : Int) (w : World) (ha : 0 ≤ a) (hb : 0 ≤ b) (ha' : a ≤ 18446744073709551615) (hb' : b ≤ 18446744073709551615) :
    Calls Tryz.prog 63 #[.int .u64 a, .int .u64 b] w fun e w' => e = .returned (.int .u64 (gc a b)) ∧ ∃ k, w' = w.drewN k := by
  go_enter Tryz.func63, Tryz.ntmps63
  go_wp2
  go_loopw [0, 1] (fun u v wr => ∃ x y : Int, 0 ≤ x ∧ 0 ≤ y ∧ x ≤ 18446744073709551615 ∧ y ≤ 18446744073709551615 ∧ Hid (gc x y = gc a b) ∧ u = .int .u64 x ∧ v = .int .u64 y ∧ ∃ k, wr = w.drewN k) (fun _ v _ => (intOf v).toNat)
  case atStart => exact ⟨a, b, ha, hb, ha', hb', rfl, rfl, rfl, 0, rfl⟩
  case round =>
    obtain ⟨x, y, hx, hy, hx', hy', hg, rfl, rfl, k, rfl⟩ := hrel
    by_cases hz : y = 0
    · subst hz
      go_wp2
      go_ret
      exact ⟨ret_int (by rw [← hg.out, gc_zero _ hx]), k, rfl⟩
    · have hz' : (y != 0) = true := by simpa using hz
      have hp : 0 < y := by omega
      go_wp2
      go_quiet (fail)
      go_wp2
      exact ⟨⟨y, x % y, hy, Int.emod_nonneg _ hz, hy', by have := Int.emod_lt_of_pos x hp; omega, (gc_step x y hx hp).trans hg.out, rfl, rfl, k + nq, World.drewN_drewN ..⟩, by have := Int.emod_lt_of_pos x hp; have := Int.emod_nonneg x hz; simp [intOf]; omega⟩

theorem out_yes {p q : Int} (h1 : -9223372036854775808 ≤ p) (h2 : p ≤ 9223372036854775807) (h3 : q ≤ 9223372036854775807) : outN p q = p ∧ outD p q = q ∧ outE p q = 0 := by
  have h : okF p q = true := by simp [okF]; omega
  simp [outN, outD, outE, h]
theorem out_no {p q : Int} (h : ¬ (-9223372036854775808 ≤ p ∧ p ≤ 9223372036854775807 ∧ q ≤ 9223372036854775807)) : outN p q = 0 ∧ outD p q = 0 ∧ outE p q = 10 := by
  have h : okF p q = false := by simp [okF]; omega
  simp [outN, outD, outE, h]

theorem ret_frac {a b c a' b' c' : Int} (h1 : a = a') (h2 : b = b') (h3 : c = c') : Ending.returned (.tuple #[.agg #[.int .i64 a, .int .i64 b], .int .i64 c]) = Ending.returned (.tuple #[.agg #[.int .i64 a', .int .i64 b'], .int .i64 c']) := by rw [h1, h2, h3]

set_option maxHeartbeats 1000000 in
theorem fit_any (b : Bool) (n d : Int) (w : World) (h0 : 0 ≤ n) (h1 : n ≤ 18446744073709551615) (g0 : 0 ≤ d) (g1 : d ≤ 18446744073709551615) :
    Calls Tryz.prog 64 #[.agg #[.bool b, .int .u64 n, .int .u64 d]] w fun e w' => e = .returned (.tuple #[.agg #[.int .i64 (outN (sg b n) d), .int .i64 (outD (sg b n) d)], .int .i64 (outE (sg b n) d)]) ∧ Below w.heap.size w w' := by
  cases b
  · by_cases a1 : n ≤ 9223372036854775807
    · by_cases a2 : d ≤ 9223372036854775807
      · obtain ⟨e1, e2, e3⟩ := out_yes (p := n) (q := d) (by omega) a1 a2
        have H1 : Hid (outN (sg false n) d = n) := e1
        have H2 : Hid (outD (sg false n) d = d) := e2
        have H3 : Hid (outE (sg false n) d = 0) := e3
        clear e1 e2 e3
        go_enter Tryz.func64, Tryz.ntmps64
        go_wp2
        go_returns
        exact ⟨ret_frac H1.out.symm H2.out.symm H3.out.symm, by go_grown⟩
      · obtain ⟨e1, e2, e3⟩ := out_no (p := n) (q := d) (by omega)
        have H1 : Hid (outN (sg false n) d = 0) := e1
        have H2 : Hid (outD (sg false n) d = 0) := e2
        have H3 : Hid (outE (sg false n) d = 10) := e3
        clear e1 e2 e3
        go_enter Tryz.func64, Tryz.ntmps64
        go_wp2
        go_returns
        exact ⟨ret_frac H1.out.symm H2.out.symm H3.out.symm, by go_grown⟩
    · obtain ⟨e1, e2, e3⟩ := out_no (p := n) (q := d) (by omega)
      have H1 : Hid (outN (sg false n) d = 0) := e1
      have H2 : Hid (outD (sg false n) d = 0) := e2
      have H3 : Hid (outE (sg false n) d = 10) := e3
      clear e1 e2 e3
      go_enter Tryz.func64, Tryz.ntmps64
      go_wp2
      go_returns
      exact ⟨ret_frac H1.out.symm H2.out.symm H3.out.symm, by go_grown⟩
  · by_cases a1 : n ≤ 9223372036854775808
    · by_cases a2 : d ≤ 9223372036854775807
      · obtain ⟨e1, e2, e3⟩ := out_yes (p := -n) (q := d) (by omega) (by omega) a2
        have H1 : Hid (outN (sg true n) d = -n) := e1
        have H2 : Hid (outD (sg true n) d = d) := e2
        have H3 : Hid (outE (sg true n) d = 0) := e3
        clear e1 e2 e3
        go_enter Tryz.func64, Tryz.ntmps64
        go_wp2
        go_returns
        exact ⟨ret_frac (H1.out.trans (by go_arith)).symm H2.out.symm H3.out.symm, by go_grown⟩
      · obtain ⟨e1, e2, e3⟩ := out_no (p := -n) (q := d) (by omega)
        have H1 : Hid (outN (sg true n) d = 0) := e1
        have H2 : Hid (outD (sg true n) d = 0) := e2
        have H3 : Hid (outE (sg true n) d = 10) := e3
        clear e1 e2 e3
        go_enter Tryz.func64, Tryz.ntmps64
        go_wp2
        go_returns
        exact ⟨ret_frac H1.out.symm H2.out.symm H3.out.symm, by go_grown⟩
    · obtain ⟨e1, e2, e3⟩ := out_no (p := -n) (q := d) (by omega)
      have H1 : Hid (outN (sg true n) d = 0) := e1
      have H2 : Hid (outD (sg true n) d = 0) := e2
      have H3 : Hid (outE (sg true n) d = 10) := e3
      clear e1 e2 e3
      go_enter Tryz.func64, Tryz.ntmps64
      go_wp2
      go_returns
      exact ⟨ret_frac H1.out.symm H2.out.symm H3.out.symm, by go_grown⟩

end Go.Proofs.YtmegombglkcccaaGreatDoor

namespace Go.Proofs.YtmegombglkcccaaGreatDoor
open Go.RowKit

theorem u64_tdiv (a b : Int) (ha : 0 ≤ a) (ha' : a ≤ 18446744073709551615) (hb : 0 < b) : IntKind.u64.wrap (a.tdiv b) = a / b := by
  rw [Int.tdiv_eq_ediv_of_nonneg ha, IntKind.wrap_u64]
  have h1 := div_le_self a b ha hb
  have h2 : 0 ≤ a / b := Int.ediv_nonneg ha (by omega)
  omega

set_option maxHeartbeats 400000 in
theorem of_zero (n : Int) (w : World) :
    Calls Tryz.prog 48 #[.int .i64 n, .int .i64 0] w fun e w' => e = .returned (.tuple #[.agg #[.int .i64 0, .int .i64 0], .int .i64 11]) ∧ Below w.heap.size w w' := by
  go_enter Tryz.func48, Tryz.ntmps48
  go_wp2
  go_returns
  exact ⟨rfl, by go_grown⟩

set_option maxHeartbeats 400000 in
theorem of_raw (n d : Int) (w : World) (h1 : -9223372036854775808 ≤ n) (h2 : n ≤ 9223372036854775807) (g1 : -9223372036854775808 ≤ d) (g2 : d ≤ 9223372036854775807) (hd : (d == 0) = false) :
    Calls Tryz.prog 48 #[.int .i64 n, .int .i64 d] w fun e w' => (∃ b : Bool, b = (!(decide (n < 0) == decide (d < 0))) ∧ e = .returned (.tuple #[.agg #[.int .i64 (outN (sg b (sz n / gc (sz n) (sz d))) (sz d / gc (sz n) (sz d))), .int .i64 (outD (sg b (sz n / gc (sz n) (sz d))) (sz d / gc (sz n) (sz d)))], .int .i64 (outE (sg b (sz n / gc (sz n) (sz d))) (sz d / gc (sz n) (sz d)))])) ∧ Below w.heap.size w w' := by
  have hd' : d ≠ 0 := by simpa using hd
  have hz : 0 < sz d := by unfold sz; omega
  have hz2 := sz_nonneg n
  have hz3 := sz_le h1 h2
  have hz4 := sz_le g1 g2
  have hp := gc_pos (sz n) (sz d) hz
  have q1 : 0 ≤ sz n / gc (sz n) (sz d) := Int.ediv_nonneg hz2 (by omega)
  have q2 : 0 ≤ sz d / gc (sz n) (sz d) := Int.ediv_nonneg (by omega) (by omega)
  have q3 := div_le_self (sz n) _ hz2 hp
  have q4 := div_le_self (sz d) _ (by omega) hp
  have hne : ¬ gc (sz n) (sz d) = 0 := by omega
  have t1 := u64_tdiv (sz n) (gc (sz n) (sz d)) hz2 (by omega) hp
  have t2 := u64_tdiv (sz d) (gc (sz n) (sz d)) (by omega) (by omega) hp
  clear hd'
  go_enter Tryz.func48, Tryz.ntmps48
  go_wp2_with (first
    | (go_at_call 62; refine (size_any _ _ (by omega) (by omega)).mono ?_; rintro e w' ⟨rfl, rfl⟩)
    | (go_at_call 63; refine (divisor_any _ _ _ (by omega) (by omega) (by omega) (by omega)).mono ?_; rintro e w' ⟨rfl, k, rfl⟩))
  go_region_held3 (fun _ => True) (trivial)
    (first
      | (go_at_call 64; refine (fit_any _ _ _ _ q1 (by omega) q2 (by omega)).mono ?_; rintro e w1 ⟨rfl, hb⟩; obtain ⟨hc, hf, hz5, hB⟩ := bf (w := w) (bdrewN _ (by go_grown)) hb))
  go_wp2
  refine bodyPost_ret (by simp [results, Tryz.results48, go_sem, hc]; try rfl) rfl ?_
  refine ⟨⟨_, rfl, rfl⟩, ?_⟩
  go_grown

/-- The numerator that Of takes to the least form: d's sign goes there. -/
def ofP (n d : Int) : Int := sg (decide (d < 0)) n

theorem of_any (n d : Int) (w : World) (h1 : -9223372036854775808 ≤ n) (h2 : n ≤ 9223372036854775807) (g1 : -9223372036854775808 ≤ d) (g2 : d ≤ 9223372036854775807) (hd : (d == 0) = false) :
    Calls Tryz.prog 48 #[.int .i64 n, .int .i64 d] w fun e w' => e = .returned (.tuple #[.agg #[.int .i64 (rN (ofP n d) (sz d)), .int .i64 (rD (ofP n d) (sz d))], .int .i64 (rE (ofP n d) (sz d))]) ∧ Below w.heap.size w w' := by
  refine (of_raw n d w h1 h2 g1 g2 hd).mono ?_
  rintro e w' ⟨⟨b, rfl, rfl⟩, hb⟩
  refine ⟨?_, hb⟩
  have e1 : sg (!(decide (n < 0) == decide (d < 0))) (sz n / gc (sz n) (sz d)) = ofP n d / gc (sz n) (sz d) := by
    rw [sg_div _ _ _ (gc_dvd_left _ _ (sz_nonneg n))]
    exact congrArg (· / gc (sz n) (sz d)) (sg_sz n (decide (d < 0)))
  have e2 : sz (ofP n d) = sz n := sz_sg _ _
  unfold rN rD rE
  rw [e1, e2]

/-- What Of tells of any two numbers. -/
def oN (n d : Int) : Int := if d = 0 then 0 else rN (ofP n d) (sz d)
def oD (n d : Int) : Int := if d = 0 then 0 else rD (ofP n d) (sz d)
def oE (n d : Int) : Int := if d = 0 then 11 else rE (ofP n d) (sz d)

theorem of_all (n d : Int) (w : World) (h1 : -9223372036854775808 ≤ n) (h2 : n ≤ 9223372036854775807) (g1 : -9223372036854775808 ≤ d) (g2 : d ≤ 9223372036854775807) :
    Calls Tryz.prog 48 #[.int .i64 n, .int .i64 d] w fun e w' => e = .returned (.tuple #[.agg #[.int .i64 (oN n d), .int .i64 (oD n d)], .int .i64 (oE n d)]) ∧ Below w.heap.size w w' := by
  unfold oN oD oE
  by_cases h : d = 0
  · subst h; simpa using of_zero n w
  · simpa [h] using of_any n d w h1 h2 g1 g2 (by simpa using h)

/-- May a fraction be, by Of alone? -/
def mayB (n d : Int) : Bool := oE n d == 0 && (oN n d == n && oD n d == d)

end Go.Proofs.YtmegombglkcccaaGreatDoor
