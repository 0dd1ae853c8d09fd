/- What rat.Of, rat.may, rat.split do. -/
import Derived.Test.YticmebamclacaabGreatDoorRows
import Derived.WalkKit
import Derived.WalkSpells
import Derived.WalkLawsBesides
import Derived.Handy
import Derived.BigQuiet
import Derived.Deep.QuietTactic
import Derived.WalkMore
import Derived.ScopeJumps
import Derived.Deep.RegionHeld3
import Derived.Test.YticmebamclacaabGreatDoorProg
import Derived.LaidEql
import Derived.Stop.Asserts
import Derived.RowKitTokens
import Derived.Shelf.Abstract
import Derived.Deep.Cut

namespace Go.Proofs.YticmebamclacaabGreatDoor
namespace LX
def digN (n : Nat) : Bool := decide (48 ≤ n) && decide (n ≤ 57)
def lowN (n : Nat) : Bool := decide (97 ≤ n) && decide (n ≤ 122)
def inwN (n : Nat) : Bool := lowN n || digN n || n == 95
def hd : List UInt8 → Nat
  | [] => 0
  | c :: _ => c.toNat
def run (p : Nat → Bool) : List UInt8 → Nat
  | [] => 0
  | c :: t => if p c.toNat then run p t + 1 else 0
def numLen (l : List UInt8) : Nat :=
  if hd (l.drop (run digN l)) = 47 ∧ digN (hd (l.drop (run digN l + 1))) = true then run digN l + 1 + run digN (l.drop (run digN l + 1)) else run digN l
def brk : List UInt8 → Option Nat
  | [] => none
  | c :: t => if c.toNat = 93 then some 1 else (brk t).map (· + 1)
def qend : Bool → List UInt8 → Option Nat
  | _, [] => none
  | true, _ :: t => (qend false t).map (· + 1)
  | false, c :: t => if c.toNat = 34 then some 1 else (qend (c.toNat == 92) t).map (· + 1)
def beh : List UInt8 → Nat × Nat
  | [] => (0, 0)
  | c :: t =>
    if c.toNat = 40 then (1, 1) else if c.toNat = 41 then (2, 1) else if lowN c.toNat then (3, 1 + run inwN t)
    else if digN c.toNat || (c.toNat == 45 && digN (hd t)) then (6, 1 + numLen t)
    else if c.toNat = 60 ∧ hd t = 61 then (4, 2)
    else if c.toNat = 61 ∨ c.toNat = 43 ∨ c.toNat = 42 ∨ c.toNat = 60 ∨ c.toNat = 45 then (4, 1)
    else if c.toNat = 91 then ((brk t).elim (0, 0) fun k => (5, 1 + k))
    else if c.toNat = 34 then ((qend false t).elim (0, 0) fun k => (6, 1 + k))
    else if c.toNat = 64 then (7, 1 + run digN t)
    else (0, 0)

theorem beh_cons (c : UInt8) (t : List UInt8) : beh (c :: t) =
    if c.toNat = 40 then (1, 1) else if c.toNat = 41 then (2, 1) else if lowN c.toNat then (3, 1 + run inwN t)
    else if digN c.toNat || (c.toNat == 45 && digN (hd t)) then (6, 1 + numLen t)
    else if c.toNat = 60 ∧ hd t = 61 then (4, 2)
    else if c.toNat = 61 ∨ c.toNat = 43 ∨ c.toNat = 42 ∨ c.toNat = 60 ∨ c.toNat = 45 then (4, 1)
    else if c.toNat = 91 then ((brk t).elim (0, 0) fun k => (5, 1 + k))
    else if c.toNat = 34 then ((qend false t).elim (0, 0) fun k => (6, 1 + k))
    else if c.toNat = 64 then (7, 1 + run digN t)
    else (0, 0) := rfl

theorem run_le (p : Nat → Bool) (l : List UInt8) : run p l ≤ l.length := by
  induction l with
  | nil => simp [run]
  | cons c t ih => simp only [run]; split <;> simp; exact ih
theorem brk_le (l : List UInt8) (k : Nat) (h : brk l = some k) : 1 ≤ k ∧ k ≤ l.length := by
  induction l generalizing k with
  | nil => simp [brk] at h
  | cons c t ih =>
    simp only [brk] at h
    split at h
    · cases h; simp
    · cases hb : brk t with
      | none => simp [hb] at h
      | some j => simp [hb] at h; have := ih j hb; simp; omega
theorem qend_le (b : Bool) (l : List UInt8) (k : Nat) (h : qend b l = some k) : 1 ≤ k ∧ k ≤ l.length := by
  induction l generalizing k b with
  | nil => cases b <;> simp [qend] at h
  | cons c t ih =>
    cases b with
    | true =>
      simp only [qend] at h
      cases hb : qend false t with
      | none => simp [hb] at h
      | some j => simp [hb] at h; have := ih false j hb; simp; omega
    | false =>
      simp only [qend] at h
      split at h
      · cases h; simp
      · cases hb : qend (c.toNat == 92) t with
        | none => simp [hb] at h
        | some j => simp [hb] at h; have := ih _ j hb; simp; omega
theorem numLen_le (l : List UInt8) : numLen l ≤ l.length := by
  unfold numLen
  have h1 := run_le digN l
  split
  · rename_i h
    have h2 := run_le digN (l.drop (run digN l + 1))
    have h3 : run digN l + 1 < l.length := by
      apply Classical.byContradiction
      intro h3
      have : l.drop (run digN l + 1) = [] := List.drop_eq_nil_of_le (by omega)
      rw [this] at h
      simp [hd, digN] at h
    simp at h2
    omega
  · exact h1
theorem beh_le (l : List UInt8) (h : (beh l).1 ≠ 0) : 1 ≤ (beh l).2 ∧ (beh l).2 ≤ l.length := by
  cases l with
  | nil => simp [beh] at h
  | cons c t =>
    have h1 := run_le inwN t
    have h2 := run_le digN t
    have h3 := numLen_le t
    revert h
    rw [beh_cons]
    split
    · intro _; simp
    split
    · intro _; simp
    split
    · intro _; simp; omega
    split
    · intro _; simp; omega
    split
    · rename_i h5; intro _
      cases t with
      | nil => simp [hd] at h5
      | cons => simp
    split
    · intro _; simp
    split
    · cases hb : brk t with
      | none => simp
      | some k => intro _; have := brk_le t k hb; simp; omega
    split
    · cases hb : qend false t with
      | none => simp
      | some k => intro _; have := qend_le false t k hb; simp; omega
    split
    · intro _; simp; omega
    · simp

/-- A text that goes on as another does, up to n bytes, and then stops or has a byte that is a blank. -/
inductive Stops : List UInt8 → Prop
  | nil : Stops []
  | cons {c : UInt8} {t : List UInt8} (h : c.toNat = 32 ∨ c.toNat = 10) : Stops (c :: t)

theorem Stops.hd {r : List UInt8} (h : Stops r) : hd r = 0 ∨ hd r = 32 ∨ hd r = 10 := by
  cases h with
  | nil => simp [LX.hd]
  | cons h => simp [LX.hd]; omega
theorem run_take (p : Nat → Bool) (l : List UInt8) (m : Nat) (h : run p l ≤ m) : run p (l.take m) = run p l := by
  induction l generalizing m with
  | nil => simp [run]
  | cons c t ih =>
    cases m with
    | zero => simp only [run] at h ⊢; split <;> simp_all [run]
    | succ m =>
      simp only [run, List.take_succ_cons] at h ⊢
      split
      · rename_i hc; simp [hc] at h; rw [ih m h]
      · rfl
theorem brk_app (l r : List UInt8) (k : Nat) (h : brk l = some k) : brk (l.take k ++ r) = some k := by
  induction l generalizing k with
  | nil => simp [brk] at h
  | cons c t ih =>
    simp only [brk] at h
    split at h
    · rename_i hc; cases h; simp [brk, hc]
    · rename_i hc
      cases hb : brk t with
      | none => simp [hb] at h
      | some j => simp [hb] at h; subst h; simp [brk, hc, ih j hb]
theorem qend_app (b : Bool) (l r : List UInt8) (k : Nat) (h : qend b l = some k) : qend b (l.take k ++ r) = some k := by
  induction l generalizing k b with
  | nil => cases b <;> simp [qend] at h
  | cons c t ih =>
    cases b with
    | true =>
      simp only [qend] at h
      cases hb : qend false t with
      | none => simp [hb] at h
      | some j => simp [hb] at h; subst h; simp [qend, ih _ j hb]
    | false =>
      simp only [qend] at h
      split at h
      · rename_i hc; cases h; simp [qend, hc]
      · rename_i hc
        cases hb : qend (c.toNat == 92) t with
        | none => simp [hb] at h
        | some j => simp [hb] at h; subst h; simp only [List.take_succ_cons, List.cons_append, qend, if_neg hc, ih _ j hb]; rfl
theorem take_split (l : List UInt8) (k m : Nat) (h : k ≤ m) : l.take m = l.take k ++ (l.drop k).take (m - k) := by
  rw [← List.take_append_drop k (l.take m), List.take_take, List.drop_take, Nat.min_eq_left h]
theorem hd_take (l : List UInt8) (m : Nat) (h : 0 < m) : hd (l.take m) = hd l := by
  cases l <;> cases m <;> simp_all [hd]

theorem numLen_take (l : List UInt8) (m : Nat) (h : numLen l ≤ m) : numLen (l.take m) = numLen l := by
  have hr : run digN l ≤ m := by
    unfold numLen at h
    split at h <;> omega
  unfold numLen at h ⊢
  rw [run_take digN l m hr, List.drop_take, List.drop_take]
  split at h
  · rename_i hc
    have h1 : run digN l + 1 + 1 ≤ m := by
      have : run digN (l.drop (run digN l + 1)) ≠ 0 := by
        cases hl : l.drop (run digN l + 1) with
        | nil => rw [hl] at hc; simp [hd, digN] at hc
        | cons c t => rw [hl] at hc; simp [run]; exact hc.2
      omega
    rw [hd_take _ _ (by omega), hd_take _ _ (by omega), if_pos hc, if_pos hc, run_take]
    omega
  · rename_i hc
    rw [if_neg hc, if_neg]
    intro hx
    apply hc
    have h0 : 0 < m - run digN l := by
      apply Classical.byContradiction; intro h0
      have : m - run digN l = 0 := by omega
      rw [this] at hx; simp [hd] at hx
    have h1 : 0 < m - (run digN l + 1) := by
      apply Classical.byContradiction; intro h1
      have : m - (run digN l + 1) = 0 := by omega
      rw [this] at hx; simp [hd, digN] at hx
    rw [hd_take _ _ h0, hd_take _ _ h1] at hx
    exact hx
/-- The token at the beginning of a text is that of each piece of the text that holds it whole. -/
theorem beh_take (l : List UInt8) (m : Nat) (h : (beh l).1 ≠ 0) (hm : (beh l).2 ≤ m) : beh (l.take m) = beh l := by
  cases l with
  | nil => simp [beh] at h
  | cons c t =>
    have hpos := (beh_le (c :: t) h).1
    obtain ⟨j, rfl⟩ : ∃ j, m = j + 1 := ⟨m - 1, by omega⟩
    rw [List.take_succ_cons]
    by_cases h1 : c.toNat = 40
    · simp [beh, h1]
    by_cases h2 : c.toNat = 41
    · simp [beh, h2]
    by_cases h3 : lowN c.toNat = true
    · have e : beh (c :: t) = (3, 1 + run inwN t) := by simp [beh_cons, h1, h2, h3]
      rw [e] at hm ⊢
      dsimp only at hm
      simp [beh_cons, h1, h2, h3, run_take inwN t j (by omega)]
    by_cases h4 : digN c.toNat = true ∨ (c.toNat = 45 ∧ digN (hd t) = true)
    · have e : beh (c :: t) = (6, 1 + numLen t) := by simp [beh_cons, h1, h2, h3, h4]
      rw [e] at hm ⊢
      dsimp only at hm
      have h4' : digN c.toNat = true ∨ (c.toNat = 45 ∧ digN (hd (t.take j)) = true) := by
        rcases h4 with h4 | ⟨h4, h5⟩
        · exact .inl h4
        · refine .inr ⟨h4, ?_⟩
          have : numLen t ≠ 0 := by
            cases t with
            | nil => simp [hd, digN] at h5
            | cons a b =>
              have : run digN (a :: b) ≠ 0 := by simp [run]; simpa [hd] using h5
              unfold numLen; split <;> omega
          rw [hd_take _ _ (by omega)]
          exact h5
      simp [beh_cons, h1, h2, h3, h4', numLen_take t j (by omega)]
    by_cases h5 : c.toNat = 60 ∧ hd t = 61
    · have e : beh (c :: t) = (4, 2) := by rw [beh_cons]; simp_all
      rw [e] at hm ⊢
      dsimp only at hm
      have h5' : c.toNat = 60 ∧ hd (t.take j) = 61 := by rw [hd_take _ _ (by omega)]; exact h5
      rw [beh_cons]
      rw [if_neg h1, if_neg h2, if_neg h3, if_neg (by simp [h5.1]; decide), if_pos h5']
    by_cases h6 : c.toNat = 61 ∨ c.toNat = 43 ∨ c.toNat = 42 ∨ c.toNat = 60 ∨ c.toNat = 45
    · have e : beh (c :: t) = (4, 1) := by rw [beh_cons]; rw [if_neg h1, if_neg h2, if_neg h3, if_neg (by simpa using h4), if_neg h5, if_pos h6]
      rw [e]
      have hj : hd (t.take j) = 0 ∨ hd (t.take j) = hd t := by
        cases j with
        | zero => left; simp [hd]
        | succ j => right; exact hd_take _ _ (by omega)
      rw [beh_cons]
      rw [if_neg h1, if_neg h2, if_neg h3, if_neg, if_neg, if_pos h6]
      · rcases hj with hj | hj <;> rw [hj]
        · simp
        · exact h5
      · rcases hj with hj | hj <;> rw [hj]
        · simp at h4 ⊢; exact ⟨h4.1, fun _ => by decide⟩
        · simpa using h4
    by_cases h7 : c.toNat = 91
    · cases hb : brk t with
      | none => exfalso; apply h; rw [beh_cons]; rw [if_neg h1, if_neg h2, if_neg h3, if_neg (by simpa using h4), if_neg h5, if_neg h6, if_pos h7, hb]; rfl
      | some k =>
        have e : beh (c :: t) = (5, 1 + k) := by rw [beh_cons]; rw [if_neg h1, if_neg h2, if_neg h3, if_neg (by simpa using h4), if_neg h5, if_neg h6, if_pos h7, hb]; rfl
        rw [e] at hm ⊢
        dsimp only at hm
        have hb2 := brk_app t ((t.drop k).take (j - k)) k hb
        rw [← take_split t k j (by omega)] at hb2
        rw [beh_cons]
        rw [if_neg h1, if_neg h2, if_neg h3, if_neg (by simp [h7]; decide), if_neg (by omega), if_neg h6, if_pos h7, hb2]
        rfl
    by_cases h8 : c.toNat = 34
    · cases hb : qend false t with
      | none => exfalso; apply h; rw [beh_cons]; rw [if_neg h1, if_neg h2, if_neg h3, if_neg (by simpa using h4), if_neg h5, if_neg h6, if_neg h7, if_pos h8, hb]; rfl
      | some k =>
        have e : beh (c :: t) = (6, 1 + k) := by rw [beh_cons]; rw [if_neg h1, if_neg h2, if_neg h3, if_neg (by simpa using h4), if_neg h5, if_neg h6, if_neg h7, if_pos h8, hb]; rfl
        rw [e] at hm ⊢
        dsimp only at hm
        have hb2 := qend_app false t ((t.drop k).take (j - k)) k hb
        rw [← take_split t k j (by omega)] at hb2
        rw [beh_cons]
        rw [if_neg h1, if_neg h2, if_neg h3, if_neg (by simp [h8]; decide), if_neg (by omega), if_neg h6, if_neg h7, if_pos h8, hb2]
        rfl
    by_cases h9 : c.toNat = 64
    · have e : beh (c :: t) = (7, 1 + run digN t) := by rw [beh_cons]; rw [if_neg h1, if_neg h2, if_neg h3, if_neg (by simpa using h4), if_neg h5, if_neg h6, if_neg h7, if_neg h8, if_pos h9]
      rw [e] at hm ⊢
      dsimp only at hm
      rw [beh_cons]
      rw [if_neg h1, if_neg h2, if_neg h3, if_neg (by simp [h9]; decide), if_neg (by omega), if_neg h6, if_neg h7, if_neg h8, if_pos h9, run_take digN t j (by omega)]
    · exfalso; apply h; rw [beh_cons]; rw [if_neg h1, if_neg h2, if_neg h3, if_neg (by simpa using h4), if_neg h5, if_neg h6, if_neg h7, if_neg h8, if_neg h9]

def blk (c : UInt8) : Bool := c.toNat == 32 || c.toNat == 10
structure Tok (V : Type) where
  k : Nat
  at_ : Nat
  x : List UInt8
  v : V
section
variable {V : Type} (sd : Nat → List UInt8 → V × Bool)
def fine (l : List UInt8) : Prop := (beh l).1 ≠ 0 ∧ (sd (beh l).1 (l.take (beh l).2)).2 = true
instance (l : List UInt8) : Decidable (fine sd l) := inferInstanceAs (Decidable (_ ∧ _))
def tokAt (l : List UInt8) (p : Nat) : Tok V := ⟨(beh l).1, p, l.take (beh l).2, (sd (beh l).1 (l.take (beh l).2)).1⟩
def toks : Nat → List UInt8 → Nat → List (Tok V) × Option Nat
  | 0, _, _ => ([], none)
  | _ + 1, [], _ => ([], none)
  | f + 1, c :: t, p =>
    if blk c then toks f t (p + 1)
    else if fine sd (c :: t) then (tokAt sd (c :: t) p :: (toks f ((c :: t).drop (beh (c :: t)).2) (p + (beh (c :: t)).2)).1, (toks f ((c :: t).drop (beh (c :: t)).2) (p + (beh (c :: t)).2)).2)
    else ([], some p)
theorem toks_fuel (f g : Nat) (l : List UInt8) (p : Nat) (hf : l.length ≤ f) (hg : l.length ≤ g) : toks sd f l p = toks sd g l p := by
  induction f generalizing g l p with
  | zero =>
    have : l = [] := List.length_eq_zero_iff.mp (by omega)
    subst this
    cases g <;> simp [toks]
  | succ f ih =>
    cases l with
    | nil => cases g <;> simp [toks]
    | cons c t =>
      cases g with
      | zero => simp at hg
      | succ g =>
        simp at hf hg
        simp only [toks]
        rw [ih g t (p + 1) hf hg]
        split
        · rfl
        split
        · rename_i h
          have h1 := beh_le _ h.1
          have h2 : ((c :: t).drop (beh (c :: t)).2).length ≤ t.length := by simp; omega
          rw [ih g ((c :: t).drop (beh (c :: t)).2) (p + (beh (c :: t)).2) (by omega) (by omega)]
        · rfl
/-- The tokens of a text that begins at a place, and where the first is that is none. -/
def T (l : List UInt8) (p : Nat) : List (Tok V) × Option Nat := toks sd l.length l p
theorem T_nil (p : Nat) : T sd [] p = ([], none) := rfl
theorem T_blank {c : UInt8} (t : List UInt8) (p : Nat) (h : blk c = true) : T sd (c :: t) p = T sd t (p + 1) := by
  simp [T, toks, h]
theorem T_tok {c : UInt8} {t : List UInt8} (p : Nat) (h : blk c = false) (hf : fine sd (c :: t)) :
    T sd (c :: t) p = (tokAt sd (c :: t) p :: (T sd ((c :: t).drop (beh (c :: t)).2) (p + (beh (c :: t)).2)).1, (T sd ((c :: t).drop (beh (c :: t)).2) (p + (beh (c :: t)).2)).2) := by
  have h1 := beh_le _ hf.1
  have h2 : ((c :: t).drop (beh (c :: t)).2).length ≤ t.length := by simp; omega
  simp only [T]
  rw [show (c :: t).length = t.length + 1 from rfl]
  simp only [toks, h, if_pos hf]
  rw [toks_fuel sd t.length _ ((c :: t).drop (beh (c :: t)).2) _ h2 (Nat.le_refl _)]
  rfl
theorem T_none {c : UInt8} {t : List UInt8} (p : Nat) (h : blk c = false) (hf : ¬ fine sd (c :: t)) : T sd (c :: t) p = ([], some p) := by
  simp [T, toks, h, hf]

/-- A text is nothing but blanks, or blanks and a token with the rest behind it, or blanks and what is no token. -/
theorem T_cases (l : List UInt8) (p : Nat) :
    ((∀ c ∈ l, blk c = true) ∧ T sd l p = ([], none))
    ∨ (∃ b, b < l.length ∧ (∀ c ∈ l.take b, blk c = true) ∧ hd (l.drop b) ≠ 32 ∧ hd (l.drop b) ≠ 10 ∧ fine sd (l.drop b) ∧ T sd l p = (tokAt sd (l.drop b) (p + b) :: (T sd (l.drop (b + (beh (l.drop b)).2)) (p + b + (beh (l.drop b)).2)).1, (T sd (l.drop (b + (beh (l.drop b)).2)) (p + b + (beh (l.drop b)).2)).2))
    ∨ (∃ b, b < l.length ∧ (∀ c ∈ l.take b, blk c = true) ∧ hd (l.drop b) ≠ 32 ∧ hd (l.drop b) ≠ 10 ∧ ¬ fine sd (l.drop b) ∧ T sd l p = ([], some (p + b))) := by
  induction l generalizing p with
  | nil => left; exact ⟨by simp, rfl⟩
  | cons c t ih =>
    cases hb : blk c with
    | true =>
      rw [T_blank sd t p hb]
      rcases ih (p + 1) with ⟨h1, h2⟩ | ⟨b, h1, h2, h2a, h2b, h3, h4⟩ | ⟨b, h1, h2, h2a, h2b, h3, h4⟩
      · left; exact ⟨by intro x hx; cases hx with | head => exact hb | tail _ h => exact h1 x h, h2⟩
      · right; left
        refine ⟨b + 1, by simp; omega, ?_, h2a, h2b, h3, ?_⟩
        · intro x hx
          rw [List.take_succ_cons] at hx
          cases hx with | head => exact hb | tail _ h => exact h2 x h
        · rw [h4, show b + 1 + (beh ((c :: t).drop (b + 1))).2 = b + (beh (t.drop b)).2 + 1 by simp; omega]
          simp only [List.drop_succ_cons]
          rw [show p + 1 + b = p + (b + 1) by omega]
      · right; right
        refine ⟨b + 1, by simp; omega, ?_, h2a, h2b, h3, ?_⟩
        · intro x hx
          rw [List.take_succ_cons] at hx
          cases hx with | head => exact hb | tail _ h => exact h2 x h
        · rw [h4, show p + 1 + b = p + (b + 1) by omega]
    | false =>
      have hn : c.toNat ≠ 32 ∧ c.toNat ≠ 10 := by simpa [blk] using hb
      by_cases hf : fine sd (c :: t)
      · right; left
        refine ⟨0, by simp, by simp, hn.1, hn.2, hf, ?_⟩
        rw [T_tok sd p hb hf]; simp
      · right; right
        exact ⟨0, by simp, by simp, hn.1, hn.2, hf, T_none sd p hb hf⟩

theorem blk_of {l : List UInt8} (h0 : l ≠ []) (h1 : hd l ≠ 32) (h2 : hd l ≠ 10) : ∃ c t, l = c :: t ∧ blk c = false := by
  cases l with
  | nil => exact absurd rfl h0
  | cons c t => exact ⟨c, t, rfl, by simp [blk]; simpa [hd] using ⟨h1, h2⟩⟩
theorem T_tok' {l : List UInt8} (p : Nat) (h0 : l ≠ []) (h1 : hd l ≠ 32) (h2 : hd l ≠ 10) (hf : fine sd l) :
    T sd l p = (tokAt sd l p :: (T sd (l.drop (beh l).2) (p + (beh l).2)).1, (T sd (l.drop (beh l).2) (p + (beh l).2)).2) := by
  obtain ⟨c, t, rfl, hb⟩ := blk_of h0 h1 h2
  exact T_tok sd p hb hf
/-- A token that may be, by itself. -/
structure Good (t : Tok V) : Prop where
  k : t.k ≠ 0
  b : beh t.x = (t.k, t.x.length)
  s : sd t.k t.x = (t.v, true)
theorem good_at (l : List UInt8) (p : Nat) (h : fine sd l) : Good sd (tokAt sd l p) := by
  have hle := beh_le l h.1
  refine ⟨h.1, ?_, ?_⟩
  · show beh (l.take (beh l).2) = ((beh l).1, (l.take (beh l).2).length)
    rw [beh_take l _ h.1 (Nat.le_refl _), List.length_take, Nat.min_eq_left hle.2]
  · show sd (beh l).1 (l.take (beh l).2) = ((sd (beh l).1 (l.take (beh l).2)).1, true)
    rw [← h.2]
theorem T_good (n : Nat) (l : List UInt8) (hn : l.length ≤ n) (p : Nat) : ∀ t ∈ (T sd l p).1, Good sd t := by
  induction n generalizing l p with
  | zero =>
    have : l = [] := List.length_eq_zero_iff.mp (by omega)
    subst this
    simp [T, toks]
  | succ n ih =>
    rcases T_cases sd l p with ⟨h1, h2⟩ | ⟨b, h1, h2, h2a, h2b, h3, h4⟩ | ⟨b, h1, h2, h2a, h2b, h3, h4⟩
    · rw [h2]; simp
    · rw [h4]
      have hle := beh_le _ h3.1
      intro t ht
      cases ht with
      | head => exact good_at sd _ _ h3
      | tail _ ht => exact ih _ (by simp; omega) _ t ht
    · rw [h4]; simp
end
end LX
end Go.Proofs.YticmebamclacaabGreatDoor

namespace Go.Proofs.YticmebamclacaabGreatDoor
open LX
set_option linter.unusedVariables false

/-- The words that are no names. -/
def resv : List (List UInt8) := [[116, 114, 117, 101], [102, 97, 108, 115, 101], [110, 111, 116], [97, 110, 100], [111, 114], [101, 120, 105, 115, 116, 115], [112, 114, 101, 118], [110, 101, 120, 116], [111, 110, 99, 101], [115, 111, 111, 110], [115, 105, 110, 99, 101], [117, 110, 116, 105, 108], [98, 101, 102, 111, 114, 101], [97, 102, 116, 101, 114], [97, 103, 103], [108, 101, 116], [108, 101, 116, 112, 97, 115, 116], [106, 111, 105, 110], [97, 110, 121], [116, 101, 115, 116], [97, 108, 116], [115, 101, 113], [115, 116, 97, 114]]
/-- Are all letters, digits or low lines? -/
def inAll : List UInt8 → Bool
  | [] => true
  | c :: l => inwN c.toNat && inAll l
/-- Is a text a name? -/
def nameL (l : List UInt8) : Bool := decide (1 ≤ l.length) && decide (l.length ≤ 16) && lowN (hd l) && !resv.contains l && inAll l
def nameB (s : ByteArray) : Bool := nameL s.data.toList

/-- A declaration. -/
structure Dec where
  name : ByteArray
  kinds : List Int

/-- The place of a declaration of a name, from a place on. -/
def findI (x : ByteArray) : List Dec → Nat → Int
  | [], _ => -1
  | d :: l, k => if d.name = x then (k : Int) else findI x l (k + 1)
/-- Why kinds may not be a declaration's. -/
def kindsE : List Int → Int
  | [] => 0
  | k :: l => if 1 ≤ k ∧ k ≤ 3 then kindsE l else 20
def declE (L : List Dec) (d : Dec) : Int := if nameB d.name = false ∨ 0 ≤ findI d.name L 0 then 1 else if 6 < d.kinds.length then 3 else kindsE d.kinds
def sigO (A : List Dec) : List Dec → Int
  | [] => 0
  | d :: l => if declE A d = 0 then sigO (A ++ [d]) l else declE A d
def sigE (L : List Dec) : Int := if 32 < L.length then 3 else sigO [] L
end Go.Proofs.YticmebamclacaabGreatDoor

namespace Go.Proofs.YticmebamclacaabGreatDoor
open Go.RowKit LX

/-- As Q; by a goto to a label: what J says of that label. -/
def Exit.jumps (J : Nat → Act → World → Prop) (Q : Exit → Act → World → Prop) : Exit → Act → World → Prop
  | .goto l, a, w => J l a w
  | e, a, w => Q e a w
section
variable {P : Program} {a : Act} {w : World} {Q : Exit → Act → World → Prop}
theorem wp_scope_labels {c : Code} (J : Nat → Act → World → Prop) (μ : Nat → Act → World → Nat)
    (first : c.wp P (Exit.jumps J Q) a w)
    (pass : ∀ l a w, J l a w → ∃ rest, findLabel c l = some rest ∧ rest.wp P (Exit.jumps (fun l' a' w' => J l' a' w' ∧ μ l' a' w' < μ l a w) Q) a w) : (Code.scope c).wp P Q a w := by
  intro b k cs
  have key : ∀ n l a w rest, findLabel c l = some rest → μ l a w = n → J l a w → ∃ e a' w', Q e a' w' ∧ Arrives P (lone (b.at a (.code rest :: .inScope c :: k)) cs w) b k cs e a' w' := by
    intro n
    induction n using Nat.strongRecOn with
    | _ n ih =>
      intro l a w rest hf hn hJ
      obtain ⟨rest', hf', hp⟩ := pass l a w hJ
      rw [hf] at hf'
      cases hf'
      obtain ⟨e, a₁, w₁, hq, harr⟩ := hp b (.inScope c :: k) cs
      cases e with
      | normal => exact ⟨.normal, a₁, w₁, hq, Steps.trans harr (.one step_inScope)⟩
      | exit id => exact ⟨.exit id, a₁, w₁, hq, fun k' hk => harr k' (by simp [exitTo, hk])⟩
      | goto l' =>
        obtain ⟨hJ', hlt⟩ := hq
        obtain ⟨rest2, hf2, -⟩ := pass l' a₁ w₁ hJ'
        have hg : gotoIn l' (.inScope c :: k) = some (.code rest2 :: .inScope c :: k) := by simp [gotoIn, hf2]
        obtain ⟨e₂, a₂, w₂, hq₂, harr₂⟩ := ih _ (by omega) l' a₁ w₁ rest2 hf2 rfl hJ'
        exact ⟨e₂, a₂, w₂, hq₂, .of_steps (harr _ hg) harr₂⟩
      | ret => exact ⟨_, a₁, w₁, hq, harr⟩
      | panic ch => exact ⟨_, a₁, w₁, hq, harr⟩
      | outgrown => exact ⟨_, a₁, w₁, hq, harr⟩
  obtain ⟨e, a₁, w₁, hq, harr⟩ := first b (.inScope c :: k) cs
  cases e with
  | normal => exact ⟨.normal, a₁, w₁, hq, .head step_scope (Steps.trans harr (.one step_inScope))⟩
  | exit id => exact ⟨.exit id, a₁, w₁, hq, fun k' hk => .head step_scope (harr k' (by simp [exitTo, hk]))⟩
  | goto l' =>
    obtain ⟨rest, hf, -⟩ := pass l' a₁ w₁ hq
    have hg : gotoIn l' (.inScope c :: k) = some (.code rest :: .inScope c :: k) := by simp [gotoIn, hf]
    obtain ⟨e₂, a₂, w₂, hq₂, harr₂⟩ := key _ l' a₁ w₁ rest hf rfl hq
    exact ⟨e₂, a₂, w₂, hq₂, .of_steps (.head step_scope (harr _ hg)) harr₂⟩
  | ret => exact ⟨_, a₁, w₁, hq, .of_steps (.one step_scope) harr⟩
  | panic ch => exact ⟨_, a₁, w₁, hq, .of_steps (.one step_scope) harr⟩
  | outgrown => exact ⟨_, a₁, w₁, hq, .of_steps (.one step_scope) harr⟩
theorem wp_scope_gotos {c : Code} (J : Nat → Act → World → Prop) (μ : Nat → Act → World → Nat)
    (pass : ∀ l a w, J l a w → ∃ y, findLabel c l = some (.seq .skip y) ∧ y.wp P (Exit.jumps (fun l' a' w' => J l' a' w' ∧ μ l' a' w' < μ l a w) Q) a w)
    (first : (∀ l a w y, J l a w → findLabel c l = some (.seq .skip y) → y.wp P (Exit.jumps J Q) a w) → c.wp P (Exit.jumps J Q) a w) : (Code.scope c).wp P Q a w := by
  refine wp_scope_labels J μ (first ?_) ?_
  · intro l a w y h hf
    obtain ⟨r, hr, hp⟩ := pass l a w h
    rw [hf] at hr
    cases hr
    refine wp_mono hp ?_
    intro e a w h
    cases e with
    | goto l => exact h.1
    | _ => exact h
  · intro l a w h
    obtain ⟨r, hr, hp⟩ := pass l a w h
    exact ⟨_, hr, wp_seq (wp_skip hp)⟩
theorem wp_scope_from {y0 : Code} (l0 : Nat) (J : Nat → Act → World → Prop) (μ : Nat → Act → World → Nat) (hf : findLabel (.seq (.label l0) y0) l0 = some (.seq .skip y0))
    (h0 : J l0 a w)
    (pass : ∀ l a w, J l a w → ∃ y, findLabel (.seq (.label l0) y0) l = some (.seq .skip y) ∧ y.wp P (Exit.jumps (fun l' a' w' => J l' a' w' ∧ μ l' a' w' < μ l a w) Q) a w) : (Code.scope (.seq (.label l0) y0)).wp P Q a w :=
  wp_scope_gotos J μ pass (fun h => wp_seq (wp_label (h l0 a w y0 h0 hf)))
end


theorem reti {k : IntKind} {a b : Int} (h : a = b) : Ending.returned (.int k a) = .returned (.int k b) := by rw [h]
theorem retb {a b : Bool} (h : a = b) : Ending.returned (.bool a) = .returned (.bool b) := by rw [h]
theorem hd_drop (s : ByteArray) (i : Nat) (h : i < s.size) : hd (s.data.toList.drop i) = s[i].toNat := by
  have h' : i < s.data.toList.length := by simpa using h
  rw [List.drop_eq_getElem_cons h']
  rfl
theorem hd_end (s : ByteArray) (i : Nat) (h : s.size ≤ i) : hd (s.data.toList.drop i) = 0 := by
  rw [List.drop_eq_nil_of_le (by simpa using h)]; rfl
theorem hd_lt (l : List UInt8) : hd l < 256 := by
  cases l with
  | nil => simp [hd]
  | cons c t => exact c.toNat_lt

theorem letter_any (c : Nat) (w : World) (hc : c < 256) :
    Calls Tryz.prog 93 #[.int .u8 c] w fun e w' => e = .returned (.bool (lowN c)) ∧ w' = w := by
  go_enter Tryz.func93, Tryz.ntmps93
  go_wp2
  all_goals go_ret
  all_goals refine ⟨retb ?_, rfl⟩
  all_goals unfold lowN
  all_goals rw [Bool.eq_iff_iff]
  all_goals simp
  all_goals omega
theorem digit_any (c : Nat) (w : World) (hc : c < 256) :
    Calls Tryz.prog 94 #[.int .u8 c] w fun e w' => e = .returned (.bool (digN c)) ∧ w' = w := by
  go_enter Tryz.func94, Tryz.ntmps94
  go_wp2
  all_goals go_ret
  all_goals refine ⟨retb ?_, rfl⟩
  all_goals unfold digN
  all_goals rw [Bool.eq_iff_iff]
  all_goals simp
  all_goals omega
set_option maxHeartbeats 1000000 in
theorem inword_any (c : Nat) (w : World) (hc : c < 256) :
    Calls Tryz.prog 98 #[.int .u8 c] w fun e w' => e = .returned (.bool (inwN c)) ∧ w' = w := by
  have A : Hid (∀ W : World, Calls Tryz.prog 93 #[.int .u8 c] W fun e w' => e = .returned (.bool (lowN c)) ∧ w' = W) := fun W => letter_any c W hc
  have D : Hid (∀ W : World, Calls Tryz.prog 94 #[.int .u8 c] W fun e w' => e = .returned (.bool (digN c)) ∧ w' = W) := fun W => digit_any c W hc
  unfold inwN
  generalize lowN c = a at A ⊢
  generalize digN c = b at D ⊢
  cases a
  · cases b
    · go_enter Tryz.func98, Tryz.ntmps98
      go_wp2_with fail
      refine (A.out _).mono ?_
      rintro e w1 ⟨rfl, rfl⟩
      go_wp2_with fail
      refine (D.out _).mono ?_
      rintro e w1 ⟨rfl, rfl⟩
      go_wp2
      all_goals go_ret
      all_goals refine ⟨retb ?_, rfl⟩
      all_goals rw [Bool.eq_iff_iff]
      all_goals simp
      all_goals omega
    · go_enter Tryz.func98, Tryz.ntmps98
      go_wp2_with fail
      refine (A.out _).mono ?_
      rintro e w1 ⟨rfl, rfl⟩
      go_wp2_with fail
      refine (D.out _).mono ?_
      rintro e w1 ⟨rfl, rfl⟩
      go_wp2
      go_ret
      exact ⟨rfl, rfl⟩
  · go_enter Tryz.func98, Tryz.ntmps98
    go_wp2_with fail
    refine (A.out _).mono ?_
    rintro e w1 ⟨rfl, rfl⟩
    go_wp2
    go_ret
    exact ⟨rfl, rfl⟩
theorem peek_any (s : ByteArray) (i : Nat) (w : World) :
    Calls Tryz.prog 95 #[.string s, .int .i64 i] w fun e w' => e = .returned (.int .u8 (hd (s.data.toList.drop i))) ∧ w' = w := by
  by_cases h : i < s.size
  · rw [hd_drop s i h]
    go_enter Tryz.func95, Tryz.ntmps95
    go_wp2
    go_ret
    exact ⟨rfl, rfl⟩
  · rw [hd_end s i (by omega)]
    go_enter Tryz.func95, Tryz.ntmps95
    go_wp2
    go_ret
    exact ⟨rfl, rfl⟩
end Go.Proofs.YticmebamclacaabGreatDoor

namespace Go.Proofs.YticmebamclacaabGreatDoor
open Go.RowKit LX
set_option linter.unusedVariables false

theorem aletter_any (c : Nat) (w : World) (hc : c < 256) :
    Calls Tryz.prog 55 #[.int .u8 c] w fun e w' => e = .returned (.bool (lowN c)) ∧ w' = w := by
  go_enter Tryz.func55, Tryz.ntmps55
  go_wp2
  all_goals go_ret
  all_goals refine ⟨retb ?_, rfl⟩
  all_goals unfold lowN
  all_goals rw [Bool.eq_iff_iff]
  all_goals simp
  all_goals omega

theorem ne_list {s : ByteArray} {l : List UInt8} (h : ¬ s.data.toList = l) : (s.toList == l) = false := by rw [ByteArray.toList_eq]; simpa using h
theorem of_list {s : ByteArray} {l : List UInt8} (h : s.data.toList = l) : s = ⟨l.toArray⟩ := by
  cases s
  subst h
  simp

set_option maxHeartbeats 4000000 in
set_option maxRecDepth 100000 in
theorem reserved_any (s : ByteArray) (w : World) :
    Calls Tryz.prog 56 #[.string s] w fun e w' => e = .returned (.bool (resv.contains s.data.toList)) ∧ w' = w := by
  by_cases h0 : s.data.toList = [116, 114, 117, 101]
  · have hs := of_list h0
    subst hs
    go_enter Tryz.func56, Tryz.ntmps56
    go_wp2
    go_ret
    exact ⟨rfl, rfl⟩
  by_cases h1 : s.data.toList = [102, 97, 108, 115, 101]
  · have hs := of_list h1
    subst hs
    go_enter Tryz.func56, Tryz.ntmps56
    go_wp2
    go_ret
    exact ⟨rfl, rfl⟩
  by_cases h2 : s.data.toList = [110, 111, 116]
  · have hs := of_list h2
    subst hs
    go_enter Tryz.func56, Tryz.ntmps56
    go_wp2
    go_ret
    exact ⟨rfl, rfl⟩
  by_cases h3 : s.data.toList = [97, 110, 100]
  · have hs := of_list h3
    subst hs
    go_enter Tryz.func56, Tryz.ntmps56
    go_wp2
    go_ret
    exact ⟨rfl, rfl⟩
  by_cases h4 : s.data.toList = [111, 114]
  · have hs := of_list h4
    subst hs
    go_enter Tryz.func56, Tryz.ntmps56
    go_wp2
    go_ret
    exact ⟨rfl, rfl⟩
  by_cases h5 : s.data.toList = [101, 120, 105, 115, 116, 115]
  · have hs := of_list h5
    subst hs
    go_enter Tryz.func56, Tryz.ntmps56
    go_wp2
    go_ret
    exact ⟨rfl, rfl⟩
  by_cases h6 : s.data.toList = [112, 114, 101, 118]
  · have hs := of_list h6
    subst hs
    go_enter Tryz.func56, Tryz.ntmps56
    go_wp2
    go_ret
    exact ⟨rfl, rfl⟩
  by_cases h7 : s.data.toList = [110, 101, 120, 116]
  · have hs := of_list h7
    subst hs
    go_enter Tryz.func56, Tryz.ntmps56
    go_wp2
    go_ret
    exact ⟨rfl, rfl⟩
  by_cases h8 : s.data.toList = [111, 110, 99, 101]
  · have hs := of_list h8
    subst hs
    go_enter Tryz.func56, Tryz.ntmps56
    go_wp2
    go_ret
    exact ⟨rfl, rfl⟩
  by_cases h9 : s.data.toList = [115, 111, 111, 110]
  · have hs := of_list h9
    subst hs
    go_enter Tryz.func56, Tryz.ntmps56
    go_wp2
    go_ret
    exact ⟨rfl, rfl⟩
  by_cases h10 : s.data.toList = [115, 105, 110, 99, 101]
  · have hs := of_list h10
    subst hs
    go_enter Tryz.func56, Tryz.ntmps56
    go_wp2
    go_ret
    exact ⟨rfl, rfl⟩
  by_cases h11 : s.data.toList = [117, 110, 116, 105, 108]
  · have hs := of_list h11
    subst hs
    go_enter Tryz.func56, Tryz.ntmps56
    go_wp2
    go_ret
    exact ⟨rfl, rfl⟩
  by_cases h12 : s.data.toList = [98, 101, 102, 111, 114, 101]
  · have hs := of_list h12
    subst hs
    go_enter Tryz.func56, Tryz.ntmps56
    go_wp2
    go_ret
    exact ⟨rfl, rfl⟩
  by_cases h13 : s.data.toList = [97, 102, 116, 101, 114]
  · have hs := of_list h13
    subst hs
    go_enter Tryz.func56, Tryz.ntmps56
    go_wp2
    go_ret
    exact ⟨rfl, rfl⟩
  by_cases h14 : s.data.toList = [97, 103, 103]
  · have hs := of_list h14
    subst hs
    go_enter Tryz.func56, Tryz.ntmps56
    go_wp2
    go_ret
    exact ⟨rfl, rfl⟩
  by_cases h15 : s.data.toList = [108, 101, 116]
  · have hs := of_list h15
    subst hs
    go_enter Tryz.func56, Tryz.ntmps56
    go_wp2
    go_ret
    exact ⟨rfl, rfl⟩
  by_cases h16 : s.data.toList = [108, 101, 116, 112, 97, 115, 116]
  · have hs := of_list h16
    subst hs
    go_enter Tryz.func56, Tryz.ntmps56
    go_wp2
    go_ret
    exact ⟨rfl, rfl⟩
  by_cases h17 : s.data.toList = [106, 111, 105, 110]
  · have hs := of_list h17
    subst hs
    go_enter Tryz.func56, Tryz.ntmps56
    go_wp2
    go_ret
    exact ⟨rfl, rfl⟩
  by_cases h18 : s.data.toList = [97, 110, 121]
  · have hs := of_list h18
    subst hs
    go_enter Tryz.func56, Tryz.ntmps56
    go_wp2
    go_ret
    exact ⟨rfl, rfl⟩
  by_cases h19 : s.data.toList = [116, 101, 115, 116]
  · have hs := of_list h19
    subst hs
    go_enter Tryz.func56, Tryz.ntmps56
    go_wp2
    go_ret
    exact ⟨rfl, rfl⟩
  by_cases h20 : s.data.toList = [97, 108, 116]
  · have hs := of_list h20
    subst hs
    go_enter Tryz.func56, Tryz.ntmps56
    go_wp2
    go_ret
    exact ⟨rfl, rfl⟩
  by_cases h21 : s.data.toList = [115, 101, 113]
  · have hs := of_list h21
    subst hs
    go_enter Tryz.func56, Tryz.ntmps56
    go_wp2
    go_ret
    exact ⟨rfl, rfl⟩
  by_cases h22 : s.data.toList = [115, 116, 97, 114]
  · have hs := of_list h22
    subst hs
    go_enter Tryz.func56, Tryz.ntmps56
    go_wp2
    go_ret
    exact ⟨rfl, rfl⟩
  have g0 := ne_list h0
  have g1 := ne_list h1
  have g2 := ne_list h2
  have g3 := ne_list h3
  have g4 := ne_list h4
  have g5 := ne_list h5
  have g6 := ne_list h6
  have g7 := ne_list h7
  have g8 := ne_list h8
  have g9 := ne_list h9
  have g10 := ne_list h10
  have g11 := ne_list h11
  have g12 := ne_list h12
  have g13 := ne_list h13
  have g14 := ne_list h14
  have g15 := ne_list h15
  have g16 := ne_list h16
  have g17 := ne_list h17
  have g18 := ne_list h18
  have g19 := ne_list h19
  have g20 := ne_list h20
  have g21 := ne_list h21
  have g22 := ne_list h22
  have hn : Hid (resv.contains s.data.toList = false) := by
    unfold Hid resv
    simp [h0, h1, h2, h3, h4, h5, h6, h7, h8, h9, h10, h11, h12, h13, h14, h15, h16, h17, h18, h19, h20, h21, h22]
  rw [hn.out]
  clear h0 h1 h2 h3 h4 h5 h6 h7 h8 h9 h10 h11 h12 h13 h14 h15 h16 h17 h18 h19 h20 h21 h22
  go_enter Tryz.func56, Tryz.ntmps56
  go_wp2
  go_ret
  exact ⟨rfl, rfl⟩

theorem nameL_len {l : List UInt8} (h : nameL l = true) : l.length ≤ 16 := by
  unfold nameL at h
  simp at h
  exact h.1.1.1.2
theorem nameL_all {l : List UInt8} (h1 : 1 ≤ l.length) (h2 : l.length ≤ 16) (h3 : lowN (hd l) = true) (h4 : resv.contains l = false) : nameL l = inAll l := by
  unfold nameL
  rw [h3, h4, decide_eq_true h1, decide_eq_true h2]
  rfl

set_option maxHeartbeats 4000000 in
set_option maxRecDepth 100000 in
theorem name_any (s : ByteArray) (w : World) :
    Calls Tryz.prog 38 #[.string s] w fun e w' => e = .returned (.bool (nameB s)) ∧ w' = w := by
  have hl : s.data.toList.length = s.size := by simp
  by_cases h0 : s.size = 0
  · have hs : s = ⟨#[]⟩ := of_list (l := []) (List.eq_nil_of_length_eq_zero (by omega))
    subst hs
    go_enter Tryz.func38, Tryz.ntmps38
    go_wp2
    go_ret
    exact ⟨rfl, rfl⟩
  · have e0 : (s.toList == []) = false := by
      rw [ByteArray.toList_eq]
      simp
      intro h
      apply h0
      rw [← hl, h]
      rfl
    by_cases h1 : 16 < s.size
    · have hn : Hid (nameB s = false) := by
        unfold Hid nameB
        cases h : nameL s.data.toList with
        | false => rfl
        | true => exact absurd (nameL_len h) (by omega)
      have h1' : (16 : Int) < s.size := by omega
      rw [hn.out]
      go_enter Tryz.func38, Tryz.ntmps38
      go_wp2
      go_ret
      exact ⟨rfl, rfl⟩
    · have h1' : ¬ (16 : Int) < s.size := by omega
      have hp : 0 < s.size := by omega
      have hh : hd s.data.toList = s[0].toNat := by simpa using hd_drop s 0 hp
      have A : Hid (∀ W : World, Calls Tryz.prog 55 #[.int .u8 s[0].toNat] W fun e w' => e = .returned (.bool (lowN (hd s.data.toList))) ∧ w' = W) := fun W => by
        rw [hh]
        exact aletter_any _ W s[0].toNat_lt
      have R : Hid (∀ W : World, Calls Tryz.prog 56 #[.string s] W fun e w' => e = .returned (.bool (resv.contains s.data.toList)) ∧ w' = W) := fun W => reserved_any s W
      by_cases hb : lowN (hd s.data.toList) = true
      · by_cases hr : resv.contains s.data.toList = true
        · have hn : Hid (nameB s = false) := by unfold Hid nameB nameL; rw [hr]; simp
          rw [hn.out]
          rw [hb] at A
          rw [hr] at R
          clear hh hb hr
          go_enter Tryz.func38, Tryz.ntmps38
          go_wp2_with fail
          refine (A.out _).mono ?_
          rintro e w1 ⟨rfl, rfl⟩
          go_wp2_with fail
          refine (R.out _).mono ?_
          rintro e w1 ⟨rfl, rfl⟩
          go_wp2
          go_ret
          exact ⟨rfl, rfl⟩
        · have hr' : resv.contains s.data.toList = false := by simpa using hr
          have hn : Hid (nameB s = inAll s.data.toList) := nameL_all (by omega) (by omega) hb hr'
          rw [hn.out]
          rw [hb] at A
          rw [hr'] at R
          clear hh hb hr hr' hn
          obtain ⟨n, en⟩ : ∃ n : Nat, Hid (s.size = n) := ⟨_, rfl⟩
          go_enter Tryz.func38, Tryz.ntmps38
          go_wp2_with fail
          refine (A.out _).mono ?_
          rintro e w1 ⟨rfl, rfl⟩
          go_wp2_with fail
          refine (R.out _).mono ?_
          rintro e w1 ⟨rfl, rfl⟩
          clear A R
          go_wp2
          go_loop [24] (fun i => ∃ k : Nat, k ≤ s.size ∧ i = .int .i64 k ∧ Hid (inAll s.data.toList = inAll (s.data.toList.drop k))) (fun i => s.size - (intOf i).toNat)
          case atStart => exact ⟨0, Nat.zero_le _, rfl, by simp [Hid]⟩
          case round =>
            obtain ⟨k, hk, rfl, hrr⟩ := hrel
            by_cases hlt : k < s.size
            · have hd1 : s.data.toList.drop k = s[k] :: s.data.toList.drop (k + 1) := by
                rw [List.drop_eq_getElem_cons (by omega)]
                rfl
              have hr2 : Hid (inAll s.data.toList = (inwN s[k].toNat && inAll (s.data.toList.drop (k + 1)))) := by
                have h := hrr.out
                rw [hd1] at h
                exact h
              have hlt' : (k : Int) < s.size := by omega
              have hC := s[k].toNat_lt
              have A : Hid (∀ W : World, Calls Tryz.prog 55 #[.int .u8 s[k].toNat] W fun e w' => e = .returned (.bool (lowN s[k].toNat)) ∧ w' = W) := fun W => aletter_any _ W hC
              clear hrr hd1
              obtain ⟨c, ec⟩ : ∃ c : Nat, Hid (s[k].toNat = c) := ⟨_, (show s[k].toNat = s[k].toNat from rfl)⟩
              rw [ec.out] at A hr2 hC
              have ec2 := ec.out
              cases hA : lowN c with
              | true =>
                have hr3 : Hid (inAll s.data.toList = inAll (s.data.toList.drop (k + 1))) := by
                  have h := hr2.out
                  have hi : inwN c = true := by unfold inwN; rw [hA]; rfl
                  rw [hi, Bool.true_and] at h
                  exact h
                rw [hA] at A
                go_wp2_with fail
                refine (A.out _).mono ?_
                rintro e w1 ⟨rfl, rfl⟩
                clear A
                go_wp2
                exact ⟨⟨k + 1, by omega, by go_num, hr3⟩, by simp [intOf]; omega⟩
              | false =>
                rw [hA] at A
                by_cases hI : inwN c = true
                · have hr3 : Hid (inAll s.data.toList = inAll (s.data.toList.drop (k + 1))) := by
                    have h := hr2.out
                    rw [hI, Bool.true_and] at h
                    exact h
                  have hx : (48 ≤ c ∧ c ≤ 57) ∨ c = 95 := by
                    unfold inwN digN at hI
                    rw [hA] at hI
                    simpa using hI
                  rcases hx with ⟨x1, x2⟩ | x3
                  · have y1 : ¬ (c : Int) < 48 := by omega
                    have y2 : ¬ (57 : Int) < c := by omega
                    clear hI
                    go_wp2_with fail
                    refine (A.out _).mono ?_
                    rintro e w1 ⟨rfl, rfl⟩
                    clear A
                    go_wp2
                    exact ⟨⟨k + 1, by omega, by go_num, hr3⟩, by simp [intOf]; omega⟩
                  · subst x3
                    clear hI
                    go_wp2_with fail
                    refine (A.out _).mono ?_
                    rintro e w1 ⟨rfl, rfl⟩
                    clear A
                    go_wp2
                    exact ⟨⟨k + 1, by omega, by go_num, hr3⟩, by simp [intOf]; omega⟩
                · have hI' : inwN c = false := by simpa using hI
                  have hr3 : Hid (inAll s.data.toList = false) := by
                    have h := hr2.out
                    rw [hI', Bool.false_and] at h
                    exact h
                  have hx : (c < 48 ∨ 57 < c) ∧ c ≠ 95 := by
                    unfold inwN digN at hI'
                    rw [hA] at hI'
                    simp at hI'
                    omega
                  have y3 : ((c : Int) == 95) = false := by simp; omega
                  clear hI hI'
                  rcases hx.1 with x1 | x1
                  · have y1 : (c : Int) < 48 := by omega
                    go_wp2_with fail
                    refine (A.out _).mono ?_
                    rintro e w1 ⟨rfl, rfl⟩
                    clear A
                    go_wp2
                    go_ret
                    exact ⟨retb hr3.out.symm, rfl⟩
                  · have y1 : ¬ (c : Int) < 48 := by omega
                    have y2 : (57 : Int) < c := by omega
                    go_wp2_with fail
                    refine (A.out _).mono ?_
                    rintro e w1 ⟨rfl, rfl⟩
                    clear A
                    go_wp2
                    go_ret
                    exact ⟨retb hr3.out.symm, rfl⟩
            · have hlt' : ¬ (k : Int) < s.size := by omega
              have hr3 : Hid (inAll s.data.toList = true) := by
                have h := hrr.out
                rw [List.drop_eq_nil_of_le (by omega)] at h
                exact h
              go_wp2
              go_ret
              exact ⟨retb hr3.out.symm, rfl⟩
      · have hb' : lowN (hd s.data.toList) = false := by simpa using hb
        have hn : Hid (nameB s = false) := by unfold Hid nameB nameL; rw [hb']; simp
        rw [hn.out]
        rw [hb'] at A
        clear hh hb hb'
        go_enter Tryz.func38, Tryz.ntmps38
        go_wp2_with fail
        refine (A.out _).mono ?_
        rintro e w1 ⟨rfl, rfl⟩
        go_wp2
        go_ret
        exact ⟨rfl, rfl⟩

end Go.Proofs.YticmebamclacaabGreatDoor

namespace Go.Proofs.YticmebamclacaabGreatDoor
open Go.RowKit Go.Extern.Stop Go.Stop Go.Extern
set_option linter.unusedVariables false

/-- What errors.As asks of the variable errors.errorType. -/
def ErrT (w : World) : Prop := w.cell? ⟨0, 0, none⟩ = some (.iface 128 (.agg #[.pointer (some ⟨9, 47, none⟩)])) ∧ 0 < w.heap.size
theorem ErrT.below {w W : World} (h : ErrT w) (hb : Below w.heap.size w W) : ErrT W := ⟨(hb.cell (p := ⟨0, 0, none⟩) h.2).trans h.1, Nat.lt_of_lt_of_le h.2 hb.size⟩

theorem as_nil (t : Value) (w : World) :
    Calls Tryz.prog 27 #[.nilIface, t] w fun e w' => e = .returned (.bool false) ∧ w' = w := by
  go_enter Tryz.func27, Tryz.ntmps27
  go_wp2
  go_ret
  exact ⟨rfl, rfl⟩
theorem rlm (z : Sem Value) (f : TypeId → Addr → Nat → Nat → Sem Value) (v : Value) :
    ReflectliteValue.method z f #[v] = (do match ← ReflectliteValue.parts v with | none => z | some (t, a, fl) => f t a fl (fl % 32)) := rfl
theorem rls (v x : Value) : ReflectliteValue.set #[v, x] = (do
    let (some (dst, a, fl), some (src, b, _)) := (← ReflectliteValue.parts v, ← ReflectliteValue.parts x)
      | unsupported (.noEntry "extern/(internal/reflectlite.Value).Set.zeroValue")
    if fl / ReflectliteValue.flagAddr % 2 == 0 then unsupported (.noEntry "extern/(internal/reflectlite.Value).Set.unaddressable")
    let val ← loadVar src b
    if ← Rtype.directlyAssignable dst src then storeVar dst a val
    else if ← Rtype.implements dst src then
      if (← Rtype.kind src) == 20 then
        match val with
        | .nilIface => unsupported (.noEntry "extern/reflectlite: a nil value of one interface type handed on as a value of another")
        | _ => storeVar dst a val
      else storeVar dst a (.iface src val)
    else panicString ("reflectlite.Set: value of type " ++ (← Rtype.spelt src) ++ " is not assignable to type " ++ (← Rtype.spelt dst))
    pure (.tuple #[])) := rfl
theorem methodKind (h : Value) (w : World) : (Go.method 105 128 (.agg #[h]) "Kind").run Tryz.prog w = .ok (148, h) w := by kernel_rfl
theorem methodElem (h : Value) (w : World) : (Go.method 105 128 (.agg #[h]) "Elem").run Tryz.prog w = .ok (161, .agg #[h]) w := by kernel_rfl
theorem methodImplements (h : Value) (w : World) : (Go.method 105 128 (.agg #[h]) "Implements").run Tryz.prog w = .ok (162, .agg #[h]) w := by kernel_rfl
theorem methodAssignableTo (h : Value) (w : World) : (Go.method 105 128 (.agg #[h]) "AssignableTo").run Tryz.prog w = .ok (159, .agg #[h]) w := by kernel_rfl
theorem valueOfPF (t : Addr) (w : World) : (ReflectliteValue.unpack (.iface 77 (.pointer (some t)))).run Tryz.prog w = .ok (.agg #[.pointer (some ⟨9, 77, none⟩), .pointer (some ⟨w.heap.size, 0, none⟩), .int .u64 150]) (w.alloc (.cells #[.pointer (some t)] 77)) := by kernel_rfl
theorem typePF (a : Addr) (w : World) : (ReflectliteValue.methodAny (ReflectliteValue.valueError "reflectlite.Value.Type" 0) (fun t _ _ _ => ReflectliteType.toType t) #[.agg #[.pointer (some ⟨9, 77, none⟩), .pointer (some a), .int .u64 150]]).run Tryz.prog w = .ok (.iface 128 (.agg #[.pointer (some ⟨9, 77, none⟩)])) w := by kernel_rfl
theorem kindPF (w : World) : ((ReflectliteType.abiMethod fun t => (fun a : Nat => Value.int IntKind.u8 (a : Int)) <$> Rtype.kind t) #[.pointer (some ⟨9, 77, none⟩)]).run Tryz.prog w = .ok (.int .u8 22) w := by kernel_rfl
theorem kindEF (w : World) : ((ReflectliteType.abiMethod fun t => (fun a : Nat => Value.int IntKind.u8 (a : Int)) <$> Rtype.kind t) #[.pointer (some ⟨9, 74, none⟩)]).run Tryz.prog w = .ok (.int .u8 25) w := by kernel_rfl
theorem partsPF (a : Addr) (w : World) : (ReflectliteValue.parts (.agg #[.pointer (some ⟨9, 77, none⟩), .pointer (some a), .int .u64 150])).run Tryz.prog w = .ok (some (77, a, 150)) w := by kernel_rfl
theorem isNilF (a p : Addr) (W : World) (ha : W.cell? a = some (.pointer (some p))) :
    (ReflectliteValue.method (ReflectliteValue.valueError "reflectlite.Value.IsNil" 0) ReflectliteValue.isNil #[.agg #[.pointer (some ⟨9, 77, none⟩), .pointer (some a), .int .u64 150]]).run Tryz.prog W = .ok (.bool false) W := by
  rw [rlm]
  simp only [Sem.run_bind, partsPF, Result.andThen]
  simp [ReflectliteValue.isNil, loadVar, isAgg, underlying, Tryz.underlying77, ha, Result.andThen]
theorem elemTF (w : World) : (ReflectliteType.method ReflectliteType.elem #[.agg #[.pointer (some ⟨9, 77, none⟩)]]).run Tryz.prog w = .ok (.iface 128 (.agg #[.pointer (some ⟨9, 74, none⟩)])) w := by kernel_rfl
theorem implF (w : World) : (ReflectliteType.relation "Implements" ReflectliteType.implements_ #[.agg #[.pointer (some ⟨9, 74, none⟩)], .iface 128 (.agg #[.pointer (some ⟨9, 47, none⟩)])]).run Tryz.prog w = .ok (.bool true) w := by kernel_rfl
theorem typeOfF (v : Value) (w : World) : (ReflectliteType.typeOf #[.iface 74 v]).run Tryz.prog w = .ok (.iface 128 (.agg #[.pointer (some ⟨9, 74, none⟩)])) w := by kernel_rfl
theorem asgnF (w : World) : (ReflectliteType.relation "AssignableTo" ReflectliteType.assignableTo #[.agg #[.pointer (some ⟨9, 74, none⟩)], .iface 128 (.agg #[.pointer (some ⟨9, 74, none⟩)])]).run Tryz.prog w = .ok (.bool true) w := by kernel_rfl
theorem valueOfEF (n : Int) (w : World) : (ReflectliteValue.unpack (.iface 74 (.agg #[.int .i64 n]))).run Tryz.prog w = .ok (.agg #[.pointer (some ⟨9, 74, none⟩), .pointer (some ⟨w.heap.size, 0, none⟩), .int .u64 153]) (w.alloc (.cells #[.int .i64 n] 74)) := by kernel_rfl
theorem elemOfF (w : World) : (Rtype.elem? 77).run Tryz.prog w = .ok (some 74) w := by kernel_rfl
theorem mkF (p : Addr) (w : World) : (ReflectliteValue.mk 74 p ReflectliteValue.flagAddr).run Tryz.prog w = .ok (.agg #[.pointer (some ⟨9, 74, none⟩), .pointer (some p), .int .u64 409]) w := by kernel_rfl
theorem elemVF (a p : Addr) (W : World) (ha : W.cell? a = some (.pointer (some p))) :
    (ReflectliteValue.method (ReflectliteValue.valueError "reflectlite.Value.Elem" 0) ReflectliteValue.elem #[.agg #[.pointer (some ⟨9, 77, none⟩), .pointer (some a), .int .u64 150]]).run Tryz.prog W = .ok (.agg #[.pointer (some ⟨9, 74, none⟩), .pointer (some p), .int .u64 409]) W := by
  rw [rlm]
  simp only [Sem.run_bind, partsPF, Result.andThen]
  simp [ReflectliteValue.elem, loadVar, isAgg, underlying, Tryz.underlying77, ha, Result.andThen, elemOfF, mkF]
theorem partsAF (a : Addr) (w : World) : (ReflectliteValue.parts (.agg #[.pointer (some ⟨9, 74, none⟩), .pointer (some a), .int .u64 409])).run Tryz.prog w = .ok (some (74, a, 409)) w := by kernel_rfl
theorem partsEF (a : Addr) (w : World) : (ReflectliteValue.parts (.agg #[.pointer (some ⟨9, 74, none⟩), .pointer (some a), .int .u64 153])).run Tryz.prog w = .ok (some (74, a, 153)) w := by kernel_rfl
theorem directF (w : World) : (Rtype.directlyAssignable 74 74).run Tryz.prog w = .ok true w := by kernel_rfl
theorem valueOfPL (t : Addr) (w : World) : (ReflectliteValue.unpack (.iface 87 (.pointer (some t)))).run Tryz.prog w = .ok (.agg #[.pointer (some ⟨9, 87, none⟩), .pointer (some ⟨w.heap.size, 0, none⟩), .int .u64 150]) (w.alloc (.cells #[.pointer (some t)] 87)) := by kernel_rfl
theorem typePL (a : Addr) (w : World) : (ReflectliteValue.methodAny (ReflectliteValue.valueError "reflectlite.Value.Type" 0) (fun t _ _ _ => ReflectliteType.toType t) #[.agg #[.pointer (some ⟨9, 87, none⟩), .pointer (some a), .int .u64 150]]).run Tryz.prog w = .ok (.iface 128 (.agg #[.pointer (some ⟨9, 87, none⟩)])) w := by kernel_rfl
theorem kindPL (w : World) : ((ReflectliteType.abiMethod fun t => (fun a : Nat => Value.int IntKind.u8 (a : Int)) <$> Rtype.kind t) #[.pointer (some ⟨9, 87, none⟩)]).run Tryz.prog w = .ok (.int .u8 22) w := by kernel_rfl
theorem kindEL (w : World) : ((ReflectliteType.abiMethod fun t => (fun a : Nat => Value.int IntKind.u8 (a : Int)) <$> Rtype.kind t) #[.pointer (some ⟨9, 86, none⟩)]).run Tryz.prog w = .ok (.int .u8 25) w := by kernel_rfl
theorem partsPL (a : Addr) (w : World) : (ReflectliteValue.parts (.agg #[.pointer (some ⟨9, 87, none⟩), .pointer (some a), .int .u64 150])).run Tryz.prog w = .ok (some (87, a, 150)) w := by kernel_rfl
theorem isNilL (a p : Addr) (W : World) (ha : W.cell? a = some (.pointer (some p))) :
    (ReflectliteValue.method (ReflectliteValue.valueError "reflectlite.Value.IsNil" 0) ReflectliteValue.isNil #[.agg #[.pointer (some ⟨9, 87, none⟩), .pointer (some a), .int .u64 150]]).run Tryz.prog W = .ok (.bool false) W := by
  rw [rlm]
  simp only [Sem.run_bind, partsPL, Result.andThen]
  simp [ReflectliteValue.isNil, loadVar, isAgg, underlying, Tryz.underlying87, ha, Result.andThen]
theorem elemTL (w : World) : (ReflectliteType.method ReflectliteType.elem #[.agg #[.pointer (some ⟨9, 87, none⟩)]]).run Tryz.prog w = .ok (.iface 128 (.agg #[.pointer (some ⟨9, 86, none⟩)])) w := by kernel_rfl
theorem implL (w : World) : (ReflectliteType.relation "Implements" ReflectliteType.implements_ #[.agg #[.pointer (some ⟨9, 86, none⟩)], .iface 128 (.agg #[.pointer (some ⟨9, 47, none⟩)])]).run Tryz.prog w = .ok (.bool true) w := by kernel_rfl
theorem typeOfL (v : Value) (w : World) : (ReflectliteType.typeOf #[.iface 86 v]).run Tryz.prog w = .ok (.iface 128 (.agg #[.pointer (some ⟨9, 86, none⟩)])) w := by kernel_rfl
theorem asgnL (w : World) : (ReflectliteType.relation "AssignableTo" ReflectliteType.assignableTo #[.agg #[.pointer (some ⟨9, 86, none⟩)], .iface 128 (.agg #[.pointer (some ⟨9, 86, none⟩)])]).run Tryz.prog w = .ok (.bool true) w := by kernel_rfl
theorem valueOfEL (n : Int) (e : Value) (w : World) : (ReflectliteValue.unpack (.iface 86 (.agg #[.int .i64 n, e]))).run Tryz.prog w = .ok (.agg #[.pointer (some ⟨9, 86, none⟩), .pointer (some ⟨w.heap.size, 0, none⟩), .int .u64 153]) (w.alloc (.cells #[.int .i64 n, e] 86)) := by kernel_rfl
theorem elemOfL (w : World) : (Rtype.elem? 87).run Tryz.prog w = .ok (some 86) w := by kernel_rfl
theorem mkL (p : Addr) (w : World) : (ReflectliteValue.mk 86 p ReflectliteValue.flagAddr).run Tryz.prog w = .ok (.agg #[.pointer (some ⟨9, 86, none⟩), .pointer (some p), .int .u64 409]) w := by kernel_rfl
theorem elemVL (a p : Addr) (W : World) (ha : W.cell? a = some (.pointer (some p))) :
    (ReflectliteValue.method (ReflectliteValue.valueError "reflectlite.Value.Elem" 0) ReflectliteValue.elem #[.agg #[.pointer (some ⟨9, 87, none⟩), .pointer (some a), .int .u64 150]]).run Tryz.prog W = .ok (.agg #[.pointer (some ⟨9, 86, none⟩), .pointer (some p), .int .u64 409]) W := by
  rw [rlm]
  simp only [Sem.run_bind, partsPL, Result.andThen]
  simp [ReflectliteValue.elem, loadVar, isAgg, underlying, Tryz.underlying87, ha, Result.andThen, elemOfL, mkL]
theorem partsAL (a : Addr) (w : World) : (ReflectliteValue.parts (.agg #[.pointer (some ⟨9, 86, none⟩), .pointer (some a), .int .u64 409])).run Tryz.prog w = .ok (some (86, a, 409)) w := by kernel_rfl
theorem partsEL (a : Addr) (w : World) : (ReflectliteValue.parts (.agg #[.pointer (some ⟨9, 86, none⟩), .pointer (some a), .int .u64 153])).run Tryz.prog w = .ok (some (86, a, 153)) w := by kernel_rfl
theorem directL (w : World) : (Rtype.directlyAssignable 86 86).run Tryz.prog w = .ok true w := by kernel_rfl
theorem asgnFL (w : World) : (ReflectliteType.relation "AssignableTo" ReflectliteType.assignableTo #[.agg #[.pointer (some ⟨9, 74, none⟩)], .iface 128 (.agg #[.pointer (some ⟨9, 86, none⟩)])]).run Tryz.prog w = .ok (.bool false) w := by kernel_rfl
theorem asgnLF (w : World) : (ReflectliteType.relation "AssignableTo" ReflectliteType.assignableTo #[.agg #[.pointer (some ⟨9, 86, none⟩)], .iface 128 (.agg #[.pointer (some ⟨9, 74, none⟩)])]).run Tryz.prog w = .ok (.bool false) w := by kernel_rfl
theorem noAsF (v : Value) (xT : TypeId) (w : World) : (Instr.typeAssert (.iface 74 v) xT 133 true).run Tryz.prog w = .ok (.tuple #[.nilIface, .bool false]) w := run_typeAssert_lacksB Tryz.underlying133 (by kernel_rfl) (by kernel_rfl) v xT w
theorem noUnF (v : Value) (xT : TypeId) (w : World) : (Instr.typeAssert (.iface 74 v) xT 136 true).run Tryz.prog w = .ok (.tuple #[.nilIface, .bool false]) w := run_typeAssert_lacksB Tryz.underlying136 (by kernel_rfl) (by kernel_rfl) v xT w
theorem noUsF (v : Value) (xT : TypeId) (w : World) : (Instr.typeAssert (.iface 74 v) xT 138 true).run Tryz.prog w = .ok (.tuple #[.nilIface, .bool false]) w := run_typeAssert_lacksB Tryz.underlying138 (by kernel_rfl) (by kernel_rfl) v xT w
theorem noAsL (v : Value) (xT : TypeId) (w : World) : (Instr.typeAssert (.iface 86 v) xT 133 true).run Tryz.prog w = .ok (.tuple #[.nilIface, .bool false]) w := run_typeAssert_lacksB Tryz.underlying133 (by kernel_rfl) (by kernel_rfl) v xT w
theorem noUnL (v : Value) (xT : TypeId) (w : World) : (Instr.typeAssert (.iface 86 v) xT 136 true).run Tryz.prog w = .ok (.tuple #[.iface 86 v, .bool true]) w := run_typeAssert_hasB Tryz.underlying136 (by kernel_rfl) v xT w
theorem methodUn (v : Value) (w : World) : (Go.method 136 86 v "Unwrap").run Tryz.prog w = .ok (154, v) w := by kernel_rfl

theorem setF (ta b : Addr) (n o : Int) (W : World) (hb : W.cell? b = some (.int .i64 n)) (ht : W.cell? ta = some (.int .i64 o)) (hf : W.frozen? ta = false) :
    (ReflectliteValue.set #[.agg #[.pointer (some ⟨9, 74, none⟩), .pointer (some ta), .int .u64 409], .agg #[.pointer (some ⟨9, 74, none⟩), .pointer (some b), .int .u64 153]]).run Tryz.prog W = .ok (.tuple #[]) (W.setCell ta (.int .i64 n)) := by
  rw [rls]
  simp only [Sem.run_bind, partsAF, partsEF, Result.andThen]
  simp [ReflectliteValue.flagAddr, loadVar, isAgg, underlying, Tryz.underlying74, hb, Result.andThen, directF, storeVar, Value.cells, storeCells, Addr.add, go_sem]
  simp [ht, hf]

theorem setL (T B : Nat) (n o : Int) (e u : Value) (W : World) (hb : W.cell? ⟨B, 0, none⟩ = some (.int .i64 n)) (hb1 : W.cell? ⟨B, 1, none⟩ = some e) (ht : W.cell? ⟨T, 0, none⟩ = some (.int .i64 o)) (ht1 : W.cell? ⟨T, 1, none⟩ = some u) (hf : W.frozen? ⟨T, 0, none⟩ = false) (hf1 : W.frozen? ⟨T, 1, none⟩ = false) (he : ∃ k z, e = .iface k z) :
    (ReflectliteValue.set #[.agg #[.pointer (some ⟨9, 86, none⟩), .pointer (some ⟨T, 0, none⟩), .int .u64 409], .agg #[.pointer (some ⟨9, 86, none⟩), .pointer (some ⟨B, 0, none⟩), .int .u64 153]]).run Tryz.prog W = .ok (.tuple #[]) ((W.setCell ⟨T, 0, none⟩ (.int .i64 n)).setCell ⟨T, 1, none⟩ e) := by
  obtain ⟨k, z, rfl⟩ := he
  rw [rls]
  simp only [Sem.run_bind, partsAL, partsEL, Result.andThen]
  simp [ReflectliteValue.flagAddr, loadVar, isAgg, underlying, Tryz.underlying86, hb, hb1, Result.andThen, directL, storeVar, Value.cells, storeCells, Addr.add, go_sem]
  simp [ht, hf]
  have hq : (W.setCell ⟨T, 0, none⟩ (Value.int IntKind.i64 n)).cell? ⟨T, 1, none⟩ = some u := by simp [go_sem, ht1]
  rw [hq]
  simp [hf1]

end Go.Proofs.YticmebamclacaabGreatDoor

namespace Go.Proofs.YticmebamclacaabGreatDoor
open Go.RowKit Go.Extern.Stop Go.Stop Go.Extern
set_option linter.unusedVariables false

set_option maxHeartbeats 4000000 in
theorem as_hitF (n o : Int) (T : Nat) (w : World) (hg : ErrT w) (ht0 : w.cell? ⟨T, 0, none⟩ = some (.int .i64 o)) (hf0 : w.frozen? ⟨T, 0, none⟩ = false) :
    Calls Tryz.prog 27 #[.iface 74 (.agg #[.int .i64 n]), .iface 77 (.pointer (some ⟨T, 0, none⟩))] w fun ev w' => ev = .returned (.bool true) ∧ w' = ((((w.alloc (.cells #[.pointer (some ⟨T, 0, none⟩)] 77)).alloc (.cells #[.pointer (some ⟨9, 77, none⟩), .pointer (some ⟨w.heap.size, 0, none⟩), .int .u64 150] 102)).alloc (.cells #[.pointer (some ⟨9, 77, none⟩), .pointer (some ⟨w.heap.size, 0, none⟩), .int .u64 150] 102)).alloc (.cells #[.int .i64 n] 74)).setCell ⟨T, 0, none⟩ (.int .i64 n) := by
  have h1 := @run_callFunc_extern Tryz.prog 40 _ (fun args => ReflectliteValue.unpack (args.getD 0 (.tuple #[]))) Tryz.func40 (by kernel_rfl) (by kernel_rfl) (by kernel_rfl) (by kernel_rfl)
  have h2 := @run_callFunc_extern Tryz.prog 41 _ (ReflectliteValue.methodAny (ReflectliteValue.valueError "reflectlite.Value.Type" 0) (fun t _ _ _ => ReflectliteType.toType t)) Tryz.func41 (by kernel_rfl) (by kernel_rfl) (by kernel_rfl) (by kernel_rfl)
  have h3 := @run_callFunc_extern Tryz.prog 42 _ (ReflectliteValue.method (ReflectliteValue.valueError "reflectlite.Value.IsNil" 0) ReflectliteValue.isNil) Tryz.func42 (by kernel_rfl) (by kernel_rfl) (by kernel_rfl) (by kernel_rfl)
  have h4 := @run_callFunc_extern Tryz.prog 148 _ (ReflectliteType.abiMethod fun t => do pure (.int .u8 (← Rtype.kind t))) Tryz.func148 (by kernel_rfl) (by kernel_rfl) (by kernel_rfl) (by kernel_rfl)
  have h5 := @run_callFunc_extern Tryz.prog 161 _ (ReflectliteType.method ReflectliteType.elem) Tryz.func161 (by kernel_rfl) (by kernel_rfl) (by kernel_rfl) (by kernel_rfl)
  have h6 := @run_callFunc_extern Tryz.prog 162 _ (ReflectliteType.relation "Implements" ReflectliteType.implements_) Tryz.func162 (by kernel_rfl) (by kernel_rfl) (by kernel_rfl) (by kernel_rfl)
  have h7 := @run_callFunc_extern Tryz.prog 59 _ ReflectliteType.typeOf Tryz.func59 (by kernel_rfl) (by kernel_rfl) (by kernel_rfl) (by kernel_rfl)
  have h8 := @run_callFunc_extern Tryz.prog 159 _ (ReflectliteType.relation "AssignableTo" ReflectliteType.assignableTo) Tryz.func159 (by kernel_rfl) (by kernel_rfl) (by kernel_rfl) (by kernel_rfl)
  have h9 := @run_callFunc_extern Tryz.prog 60 _ (ReflectliteValue.method (ReflectliteValue.valueError "reflectlite.Value.Elem" 0) ReflectliteValue.elem) Tryz.func60 (by kernel_rfl) (by kernel_rfl) (by kernel_rfl) (by kernel_rfl)
  have h10 := @run_callFunc_extern Tryz.prog 61 _ ReflectliteValue.set Tryz.func61 (by kernel_rfl) (by kernel_rfl) (by kernel_rfl) (by kernel_rfl)
  have mK := methodKind
  have mE := methodElem
  have mI := methodImplements
  have mA := methodAssignableTo
  have valueofpq := valueOfPF
  have typepq := typePF
  have kindpq := kindPF
  have kindeq := kindEF
  have elemtq := elemTF
  have implq := implF
  have n8 := isNilF ⟨w.heap.size, 0, none⟩ ⟨T, 0, none⟩ ((w.alloc (.cells #[.pointer (some ⟨T, 0, none⟩)] 77)).alloc (.cells #[.pointer (some ⟨9, 77, none⟩), .pointer (some ⟨w.heap.size, 0, none⟩), .int .u64 150] 102)) (by simp)
  have hg2 : ((w.alloc (.cells #[.pointer (some ⟨T, 0, none⟩)] 77)).alloc (.cells #[.pointer (some ⟨9, 77, none⟩), .pointer (some ⟨w.heap.size, 0, none⟩), .int .u64 150] 102)).cell? ⟨0, 0, none⟩ = some (.iface 128 (.agg #[.pointer (some ⟨9, 47, none⟩)])) := by
    rw [World.cell?_alloc_lt _ _ ⟨0, 0, none⟩ (by have := hg.2; first | (simp; done) | (simp; omega)), World.cell?_alloc_lt _ _ ⟨0, 0, none⟩ hg.2]; exact hg.1
  have tO := typeOfF
  have aS := asgnF
  have vE := valueOfEF
  have htl : T < w.heap.size := World.block_lt_of_cell? _ _ ht0
  have el := elemVF ⟨w.heap.size, 0, none⟩ ⟨T, 0, none⟩ (((w.alloc (.cells #[.pointer (some ⟨T, 0, none⟩)] 77)).alloc (.cells #[.pointer (some ⟨9, 77, none⟩), .pointer (some ⟨w.heap.size, 0, none⟩), .int .u64 150] 102)).alloc (.cells #[.pointer (some ⟨9, 77, none⟩), .pointer (some ⟨w.heap.size, 0, none⟩), .int .u64 150] 102)) (by rw [World.cell?_alloc_lt _ _ ⟨w.heap.size, 0, none⟩ (by simp; omega)]; simp)
  have st := setF ⟨T, 0, none⟩ ⟨w.heap.size + 1 + 1 + 1, 0, none⟩ n o ((((w.alloc (.cells #[.pointer (some ⟨T, 0, none⟩)] 77)).alloc (.cells #[.pointer (some ⟨9, 77, none⟩), .pointer (some ⟨w.heap.size, 0, none⟩), .int .u64 150] 102)).alloc (.cells #[.pointer (some ⟨9, 77, none⟩), .pointer (some ⟨w.heap.size, 0, none⟩), .int .u64 150] 102)).alloc (.cells #[.int .i64 n] 74)) (by rw [World.cell?_alloc_at _ _ _ _ (by simp)]; rfl) (by rw [World.cell?_alloc_lt _ _ ⟨T, 0, none⟩ (by simp; omega), World.cell?_alloc_lt _ _ ⟨T, 0, none⟩ (by simp; omega), World.cell?_alloc_lt _ _ ⟨T, 0, none⟩ (by simp; omega), World.cell?_alloc_lt _ _ ⟨T, 0, none⟩ htl]; exact ht0) (by rw [World.frozen?_alloc_old _ _ ⟨T, 0, none⟩ (by simp; omega), World.frozen?_alloc_old _ _ ⟨T, 0, none⟩ (by simp; omega), World.frozen?_alloc_old _ _ ⟨T, 0, none⟩ (by simp; omega), World.frozen?_alloc_old _ _ ⟨T, 0, none⟩ (Nat.ne_of_lt htl)]; exact hf0)
  go_enter Tryz.func27, Tryz.ntmps27
  go_wp2
  refine wp_loop_rounds 1 ?_
  rw [rounds_succ]
  go_wp2
  go_ret
  exact ⟨rfl, rfl⟩

set_option maxHeartbeats 4000000 in
theorem as_hitL (n o : Int) (e u : Value) (T : Nat) (w : World) (hg : ErrT w) (ht0 : w.cell? ⟨T, 0, none⟩ = some (.int .i64 o)) (ht1 : w.cell? ⟨T, 1, none⟩ = some u) (hf0 : w.frozen? ⟨T, 0, none⟩ = false) (hf1 : w.frozen? ⟨T, 1, none⟩ = false) (he : ∃ k z, e = .iface k z) :
    Calls Tryz.prog 27 #[.iface 86 (.agg #[.int .i64 n, e]), .iface 87 (.pointer (some ⟨T, 0, none⟩))] w fun ev w' => ev = .returned (.bool true) ∧ w' = (((((w.alloc (.cells #[.pointer (some ⟨T, 0, none⟩)] 87)).alloc (.cells #[.pointer (some ⟨9, 87, none⟩), .pointer (some ⟨w.heap.size, 0, none⟩), .int .u64 150] 102)).alloc (.cells #[.pointer (some ⟨9, 87, none⟩), .pointer (some ⟨w.heap.size, 0, none⟩), .int .u64 150] 102)).alloc (.cells #[.int .i64 n, e] 86)).setCell ⟨T, 0, none⟩ (.int .i64 n)).setCell ⟨T, 1, none⟩ e := by
  have h1 := @run_callFunc_extern Tryz.prog 40 _ (fun args => ReflectliteValue.unpack (args.getD 0 (.tuple #[]))) Tryz.func40 (by kernel_rfl) (by kernel_rfl) (by kernel_rfl) (by kernel_rfl)
  have h2 := @run_callFunc_extern Tryz.prog 41 _ (ReflectliteValue.methodAny (ReflectliteValue.valueError "reflectlite.Value.Type" 0) (fun t _ _ _ => ReflectliteType.toType t)) Tryz.func41 (by kernel_rfl) (by kernel_rfl) (by kernel_rfl) (by kernel_rfl)
  have h3 := @run_callFunc_extern Tryz.prog 42 _ (ReflectliteValue.method (ReflectliteValue.valueError "reflectlite.Value.IsNil" 0) ReflectliteValue.isNil) Tryz.func42 (by kernel_rfl) (by kernel_rfl) (by kernel_rfl) (by kernel_rfl)
  have h4 := @run_callFunc_extern Tryz.prog 148 _ (ReflectliteType.abiMethod fun t => do pure (.int .u8 (← Rtype.kind t))) Tryz.func148 (by kernel_rfl) (by kernel_rfl) (by kernel_rfl) (by kernel_rfl)
  have h5 := @run_callFunc_extern Tryz.prog 161 _ (ReflectliteType.method ReflectliteType.elem) Tryz.func161 (by kernel_rfl) (by kernel_rfl) (by kernel_rfl) (by kernel_rfl)
  have h6 := @run_callFunc_extern Tryz.prog 162 _ (ReflectliteType.relation "Implements" ReflectliteType.implements_) Tryz.func162 (by kernel_rfl) (by kernel_rfl) (by kernel_rfl) (by kernel_rfl)
  have h7 := @run_callFunc_extern Tryz.prog 59 _ ReflectliteType.typeOf Tryz.func59 (by kernel_rfl) (by kernel_rfl) (by kernel_rfl) (by kernel_rfl)
  have h8 := @run_callFunc_extern Tryz.prog 159 _ (ReflectliteType.relation "AssignableTo" ReflectliteType.assignableTo) Tryz.func159 (by kernel_rfl) (by kernel_rfl) (by kernel_rfl) (by kernel_rfl)
  have h9 := @run_callFunc_extern Tryz.prog 60 _ (ReflectliteValue.method (ReflectliteValue.valueError "reflectlite.Value.Elem" 0) ReflectliteValue.elem) Tryz.func60 (by kernel_rfl) (by kernel_rfl) (by kernel_rfl) (by kernel_rfl)
  have h10 := @run_callFunc_extern Tryz.prog 61 _ ReflectliteValue.set Tryz.func61 (by kernel_rfl) (by kernel_rfl) (by kernel_rfl) (by kernel_rfl)
  have mK := methodKind
  have mE := methodElem
  have mI := methodImplements
  have mA := methodAssignableTo
  have valueofpq := valueOfPL
  have typepq := typePL
  have kindpq := kindPL
  have kindeq := kindEL
  have elemtq := elemTL
  have implq := implL
  have n8 := isNilL ⟨w.heap.size, 0, none⟩ ⟨T, 0, none⟩ ((w.alloc (.cells #[.pointer (some ⟨T, 0, none⟩)] 87)).alloc (.cells #[.pointer (some ⟨9, 87, none⟩), .pointer (some ⟨w.heap.size, 0, none⟩), .int .u64 150] 102)) (by simp)
  have hg2 : ((w.alloc (.cells #[.pointer (some ⟨T, 0, none⟩)] 87)).alloc (.cells #[.pointer (some ⟨9, 87, none⟩), .pointer (some ⟨w.heap.size, 0, none⟩), .int .u64 150] 102)).cell? ⟨0, 0, none⟩ = some (.iface 128 (.agg #[.pointer (some ⟨9, 47, none⟩)])) := by
    rw [World.cell?_alloc_lt _ _ ⟨0, 0, none⟩ (by have := hg.2; first | (simp; done) | (simp; omega)), World.cell?_alloc_lt _ _ ⟨0, 0, none⟩ hg.2]; exact hg.1
  have tO := typeOfL
  have aS := asgnL
  have vE := valueOfEL
  have htl : T < w.heap.size := World.block_lt_of_cell? _ _ ht0
  have el := elemVL ⟨w.heap.size, 0, none⟩ ⟨T, 0, none⟩ (((w.alloc (.cells #[.pointer (some ⟨T, 0, none⟩)] 87)).alloc (.cells #[.pointer (some ⟨9, 87, none⟩), .pointer (some ⟨w.heap.size, 0, none⟩), .int .u64 150] 102)).alloc (.cells #[.pointer (some ⟨9, 87, none⟩), .pointer (some ⟨w.heap.size, 0, none⟩), .int .u64 150] 102)) (by rw [World.cell?_alloc_lt _ _ ⟨w.heap.size, 0, none⟩ (by simp; omega)]; simp)
  have st := setL T (w.heap.size + 1 + 1 + 1) n o e u ((((w.alloc (.cells #[.pointer (some ⟨T, 0, none⟩)] 87)).alloc (.cells #[.pointer (some ⟨9, 87, none⟩), .pointer (some ⟨w.heap.size, 0, none⟩), .int .u64 150] 102)).alloc (.cells #[.pointer (some ⟨9, 87, none⟩), .pointer (some ⟨w.heap.size, 0, none⟩), .int .u64 150] 102)).alloc (.cells #[.int .i64 n, e] 86)) (by rw [World.cell?_alloc_at _ _ _ _ (by simp)]; rfl) (by rw [World.cell?_alloc_at _ _ _ _ (by simp)]; rfl) (by rw [World.cell?_alloc_lt _ _ ⟨T, 0, none⟩ (by simp; omega), World.cell?_alloc_lt _ _ ⟨T, 0, none⟩ (by simp; omega), World.cell?_alloc_lt _ _ ⟨T, 0, none⟩ (by simp; omega), World.cell?_alloc_lt _ _ ⟨T, 0, none⟩ htl]; exact ht0) (by rw [World.cell?_alloc_lt _ _ ⟨T, 1, none⟩ (by simp; omega), World.cell?_alloc_lt _ _ ⟨T, 1, none⟩ (by simp; omega), World.cell?_alloc_lt _ _ ⟨T, 1, none⟩ (by simp; omega), World.cell?_alloc_lt _ _ ⟨T, 1, none⟩ htl]; exact ht1) (by rw [World.frozen?_alloc_old _ _ ⟨T, 0, none⟩ (by simp; omega), World.frozen?_alloc_old _ _ ⟨T, 0, none⟩ (by simp; omega), World.frozen?_alloc_old _ _ ⟨T, 0, none⟩ (by simp; omega), World.frozen?_alloc_old _ _ ⟨T, 0, none⟩ (Nat.ne_of_lt htl)]; exact hf0) (by rw [World.frozen?_alloc_old _ _ ⟨T, 1, none⟩ (by simp; omega), World.frozen?_alloc_old _ _ ⟨T, 1, none⟩ (by simp; omega), World.frozen?_alloc_old _ _ ⟨T, 1, none⟩ (by simp; omega), World.frozen?_alloc_old _ _ ⟨T, 1, none⟩ (Nat.ne_of_lt htl)]; exact hf1) he
  go_enter Tryz.func27, Tryz.ntmps27
  go_wp2
  refine wp_loop_rounds 1 ?_
  rw [rounds_succ]
  go_wp2
  go_ret
  exact ⟨rfl, rfl⟩

theorem unwrap_any (n : Int) (k : TypeId) (z : Value) (w : World) :
    Calls Tryz.prog 154 #[.agg #[.int .i64 n, .iface k z]] w fun ev w' => ev = .returned (.iface k z) ∧ w' = w.alloc (.cells #[.int .i64 n, .iface k z] 86) := by
  go_enter Tryz.func154, Tryz.ntmps154
  go_wp2
  go_ret
  exact ⟨rfl, rfl⟩

set_option maxHeartbeats 4000000 in
theorem as_missF (n : Int) (T : Nat) (w : World) (hg : ErrT w) :
    Calls Tryz.prog 27 #[.iface 74 (.agg #[.int .i64 n]), .iface 87 (.pointer (some ⟨T, 0, none⟩))] w fun ev w' => ev = .returned (.bool false) ∧ w' = (((w.alloc (.cells #[.pointer (some ⟨T, 0, none⟩)] 87)).alloc (.cells #[.pointer (some ⟨9, 87, none⟩), .pointer (some ⟨w.heap.size, 0, none⟩), .int .u64 150] 102)).alloc (.cells #[.pointer (some ⟨9, 87, none⟩), .pointer (some ⟨w.heap.size, 0, none⟩), .int .u64 150] 102)) := by
  have h1 := @run_callFunc_extern Tryz.prog 40 _ (fun args => ReflectliteValue.unpack (args.getD 0 (.tuple #[]))) Tryz.func40 (by kernel_rfl) (by kernel_rfl) (by kernel_rfl) (by kernel_rfl)
  have h2 := @run_callFunc_extern Tryz.prog 41 _ (ReflectliteValue.methodAny (ReflectliteValue.valueError "reflectlite.Value.Type" 0) (fun t _ _ _ => ReflectliteType.toType t)) Tryz.func41 (by kernel_rfl) (by kernel_rfl) (by kernel_rfl) (by kernel_rfl)
  have h3 := @run_callFunc_extern Tryz.prog 42 _ (ReflectliteValue.method (ReflectliteValue.valueError "reflectlite.Value.IsNil" 0) ReflectliteValue.isNil) Tryz.func42 (by kernel_rfl) (by kernel_rfl) (by kernel_rfl) (by kernel_rfl)
  have h4 := @run_callFunc_extern Tryz.prog 148 _ (ReflectliteType.abiMethod fun t => do pure (.int .u8 (← Rtype.kind t))) Tryz.func148 (by kernel_rfl) (by kernel_rfl) (by kernel_rfl) (by kernel_rfl)
  have h5 := @run_callFunc_extern Tryz.prog 161 _ (ReflectliteType.method ReflectliteType.elem) Tryz.func161 (by kernel_rfl) (by kernel_rfl) (by kernel_rfl) (by kernel_rfl)
  have h6 := @run_callFunc_extern Tryz.prog 162 _ (ReflectliteType.relation "Implements" ReflectliteType.implements_) Tryz.func162 (by kernel_rfl) (by kernel_rfl) (by kernel_rfl) (by kernel_rfl)
  have h7 := @run_callFunc_extern Tryz.prog 59 _ ReflectliteType.typeOf Tryz.func59 (by kernel_rfl) (by kernel_rfl) (by kernel_rfl) (by kernel_rfl)
  have h8 := @run_callFunc_extern Tryz.prog 159 _ (ReflectliteType.relation "AssignableTo" ReflectliteType.assignableTo) Tryz.func159 (by kernel_rfl) (by kernel_rfl) (by kernel_rfl) (by kernel_rfl)
  have h9 := @run_callFunc_extern Tryz.prog 60 _ (ReflectliteValue.method (ReflectliteValue.valueError "reflectlite.Value.Elem" 0) ReflectliteValue.elem) Tryz.func60 (by kernel_rfl) (by kernel_rfl) (by kernel_rfl) (by kernel_rfl)
  have h10 := @run_callFunc_extern Tryz.prog 61 _ ReflectliteValue.set Tryz.func61 (by kernel_rfl) (by kernel_rfl) (by kernel_rfl) (by kernel_rfl)
  have mK := methodKind
  have mE := methodElem
  have mI := methodImplements
  have mA := methodAssignableTo
  have valueofpq := valueOfPL
  have typepq := typePL
  have kindpq := kindPL
  have kindeq := kindEL
  have elemtq := elemTL
  have implq := implL
  have n8 := isNilL ⟨w.heap.size, 0, none⟩ ⟨T, 0, none⟩ ((w.alloc (.cells #[.pointer (some ⟨T, 0, none⟩)] 87)).alloc (.cells #[.pointer (some ⟨9, 87, none⟩), .pointer (some ⟨w.heap.size, 0, none⟩), .int .u64 150] 102)) (by simp)
  have hg2 : ((w.alloc (.cells #[.pointer (some ⟨T, 0, none⟩)] 87)).alloc (.cells #[.pointer (some ⟨9, 87, none⟩), .pointer (some ⟨w.heap.size, 0, none⟩), .int .u64 150] 102)).cell? ⟨0, 0, none⟩ = some (.iface 128 (.agg #[.pointer (some ⟨9, 47, none⟩)])) := by
    rw [World.cell?_alloc_lt _ _ ⟨0, 0, none⟩ (by have := hg.2; first | (simp; done) | (simp; omega)), World.cell?_alloc_lt _ _ ⟨0, 0, none⟩ hg.2]; exact hg.1
  have tO := typeOfF
  have aS := asgnFL
  have q1 := noAsF
  have q2 := noUnF
  have q3 := noUsF
  go_enter Tryz.func27, Tryz.ntmps27
  go_wp2
  refine wp_loop_rounds 1 ?_
  rw [rounds_succ]
  go_wp2
  go_ret
  exact ⟨rfl, rfl⟩

set_option maxHeartbeats 4000000 in
theorem as_unw (m n o : Int) (T : Nat) (w : World) (hg : ErrT w) (ht0 : w.cell? ⟨T, 0, none⟩ = some (.int .i64 o)) (hf0 : w.frozen? ⟨T, 0, none⟩ = false) :
    Calls Tryz.prog 27 #[.iface 86 (.agg #[.int .i64 m, .iface 74 (.agg #[.int .i64 n])]), .iface 77 (.pointer (some ⟨T, 0, none⟩))] w fun ev w' => ev = .returned (.bool true) ∧ w' = (((((w.alloc (.cells #[.pointer (some ⟨T, 0, none⟩)] 77)).alloc (.cells #[.pointer (some ⟨9, 77, none⟩), .pointer (some ⟨w.heap.size, 0, none⟩), .int .u64 150] 102)).alloc (.cells #[.pointer (some ⟨9, 77, none⟩), .pointer (some ⟨w.heap.size, 0, none⟩), .int .u64 150] 102)).alloc (.cells #[.int .i64 m, .iface 74 (.agg #[.int .i64 n])] 86)).alloc (.cells #[.int .i64 n] 74)).setCell ⟨T, 0, none⟩ (.int .i64 n) := by
  have h1 := @run_callFunc_extern Tryz.prog 40 _ (fun args => ReflectliteValue.unpack (args.getD 0 (.tuple #[]))) Tryz.func40 (by kernel_rfl) (by kernel_rfl) (by kernel_rfl) (by kernel_rfl)
  have h2 := @run_callFunc_extern Tryz.prog 41 _ (ReflectliteValue.methodAny (ReflectliteValue.valueError "reflectlite.Value.Type" 0) (fun t _ _ _ => ReflectliteType.toType t)) Tryz.func41 (by kernel_rfl) (by kernel_rfl) (by kernel_rfl) (by kernel_rfl)
  have h3 := @run_callFunc_extern Tryz.prog 42 _ (ReflectliteValue.method (ReflectliteValue.valueError "reflectlite.Value.IsNil" 0) ReflectliteValue.isNil) Tryz.func42 (by kernel_rfl) (by kernel_rfl) (by kernel_rfl) (by kernel_rfl)
  have h4 := @run_callFunc_extern Tryz.prog 148 _ (ReflectliteType.abiMethod fun t => do pure (.int .u8 (← Rtype.kind t))) Tryz.func148 (by kernel_rfl) (by kernel_rfl) (by kernel_rfl) (by kernel_rfl)
  have h5 := @run_callFunc_extern Tryz.prog 161 _ (ReflectliteType.method ReflectliteType.elem) Tryz.func161 (by kernel_rfl) (by kernel_rfl) (by kernel_rfl) (by kernel_rfl)
  have h6 := @run_callFunc_extern Tryz.prog 162 _ (ReflectliteType.relation "Implements" ReflectliteType.implements_) Tryz.func162 (by kernel_rfl) (by kernel_rfl) (by kernel_rfl) (by kernel_rfl)
  have h7 := @run_callFunc_extern Tryz.prog 59 _ ReflectliteType.typeOf Tryz.func59 (by kernel_rfl) (by kernel_rfl) (by kernel_rfl) (by kernel_rfl)
  have h8 := @run_callFunc_extern Tryz.prog 159 _ (ReflectliteType.relation "AssignableTo" ReflectliteType.assignableTo) Tryz.func159 (by kernel_rfl) (by kernel_rfl) (by kernel_rfl) (by kernel_rfl)
  have h9 := @run_callFunc_extern Tryz.prog 60 _ (ReflectliteValue.method (ReflectliteValue.valueError "reflectlite.Value.Elem" 0) ReflectliteValue.elem) Tryz.func60 (by kernel_rfl) (by kernel_rfl) (by kernel_rfl) (by kernel_rfl)
  have h10 := @run_callFunc_extern Tryz.prog 61 _ ReflectliteValue.set Tryz.func61 (by kernel_rfl) (by kernel_rfl) (by kernel_rfl) (by kernel_rfl)
  have mK := methodKind
  have mE := methodElem
  have mI := methodImplements
  have mA := methodAssignableTo
  have valueofpq := valueOfPF
  have typepq := typePF
  have kindpq := kindPF
  have kindeq := kindEF
  have elemtq := elemTF
  have implq := implF
  have n8 := isNilF ⟨w.heap.size, 0, none⟩ ⟨T, 0, none⟩ ((w.alloc (.cells #[.pointer (some ⟨T, 0, none⟩)] 77)).alloc (.cells #[.pointer (some ⟨9, 77, none⟩), .pointer (some ⟨w.heap.size, 0, none⟩), .int .u64 150] 102)) (by simp)
  have hg2 : ((w.alloc (.cells #[.pointer (some ⟨T, 0, none⟩)] 77)).alloc (.cells #[.pointer (some ⟨9, 77, none⟩), .pointer (some ⟨w.heap.size, 0, none⟩), .int .u64 150] 102)).cell? ⟨0, 0, none⟩ = some (.iface 128 (.agg #[.pointer (some ⟨9, 47, none⟩)])) := by
    rw [World.cell?_alloc_lt _ _ ⟨0, 0, none⟩ (by have := hg.2; first | (simp; done) | (simp; omega)), World.cell?_alloc_lt _ _ ⟨0, 0, none⟩ hg.2]; exact hg.1
  have tO := typeOfL
  have tF := typeOfF
  have aS := asgnLF
  have aF := asgnF
  have q1 := noAsL
  have q2 := noUnL
  have mU := methodUn
  have vE := valueOfEF
  have htl : T < w.heap.size := World.block_lt_of_cell? _ _ ht0
  have el := elemVF ⟨w.heap.size, 0, none⟩ ⟨T, 0, none⟩ ((((w.alloc (.cells #[.pointer (some ⟨T, 0, none⟩)] 77)).alloc (.cells #[.pointer (some ⟨9, 77, none⟩), .pointer (some ⟨w.heap.size, 0, none⟩), .int .u64 150] 102)).alloc (.cells #[.pointer (some ⟨9, 77, none⟩), .pointer (some ⟨w.heap.size, 0, none⟩), .int .u64 150] 102)).alloc (.cells #[.int .i64 m, .iface 74 (.agg #[.int .i64 n])] 86)) (by rw [World.cell?_alloc_lt _ _ ⟨w.heap.size, 0, none⟩ (by simp; omega), World.cell?_alloc_lt _ _ ⟨w.heap.size, 0, none⟩ (by simp; omega)]; simp)
  have st := setF ⟨T, 0, none⟩ ⟨w.heap.size + 1 + 1 + 1 + 1, 0, none⟩ n o (((((w.alloc (.cells #[.pointer (some ⟨T, 0, none⟩)] 77)).alloc (.cells #[.pointer (some ⟨9, 77, none⟩), .pointer (some ⟨w.heap.size, 0, none⟩), .int .u64 150] 102)).alloc (.cells #[.pointer (some ⟨9, 77, none⟩), .pointer (some ⟨w.heap.size, 0, none⟩), .int .u64 150] 102)).alloc (.cells #[.int .i64 m, .iface 74 (.agg #[.int .i64 n])] 86)).alloc (.cells #[.int .i64 n] 74)) (by rw [World.cell?_alloc_at _ _ _ _ (by simp)]; rfl) (by rw [World.cell?_alloc_lt _ _ ⟨T, 0, none⟩ (by simp; omega), World.cell?_alloc_lt _ _ ⟨T, 0, none⟩ (by simp; omega), World.cell?_alloc_lt _ _ ⟨T, 0, none⟩ (by simp; omega), World.cell?_alloc_lt _ _ ⟨T, 0, none⟩ (by simp; omega), World.cell?_alloc_lt _ _ ⟨T, 0, none⟩ htl]; exact ht0) (by rw [World.frozen?_alloc_old _ _ ⟨T, 0, none⟩ (by simp; omega), World.frozen?_alloc_old _ _ ⟨T, 0, none⟩ (by simp; omega), World.frozen?_alloc_old _ _ ⟨T, 0, none⟩ (by simp; omega), World.frozen?_alloc_old _ _ ⟨T, 0, none⟩ (by simp; omega), World.frozen?_alloc_old _ _ ⟨T, 0, none⟩ (Nat.ne_of_lt htl)]; exact hf0)
  go_enter Tryz.func27, Tryz.ntmps27
  go_wp2
  refine wp_loop_rounds 2 ?_
  rw [rounds_succ]
  go_wp2_with (first | (go_at_call 154; refine (unwrap_any _ _ _ _).mono ?_; rintro e w' ⟨rfl, rfl⟩))
  rw [rounds_succ]
  go_wp2
  go_ret
  exact ⟨rfl, rfl⟩

end Go.Proofs.YticmebamclacaabGreatDoor

namespace Go.Proofs.YticmebamclacaabGreatDoor
open Go.RowKit Go.Extern.Stop Go.Stop Go.Extern
set_option linter.unusedVariables false

theorem bgX {n : Nat} {W0 W w1 : World} (h0 : Below n W0 W) (hn : n ≤ W.heap.size) (hb : Below W.heap.size W w1) : Below n W0 w1 ∧ n ≤ w1.heap.size := ⟨h0.trans (hb.mono hn), Nat.le_trans hn hb.size⟩
/-- The error that wraps a number; none for 0. -/
def errV (e : Int) : Value := if e = 0 then .nilIface else .iface 74 (.agg #[.int .i64 e])
theorem errV_0 : errV 0 = .nilIface := rfl
theorem errV_ne {e : Int} (h : ¬ e = 0) : errV e = .iface 74 (.agg #[.int .i64 e]) := if_neg h
/-- An error met in a line. -/
abbrev lineV (m n : Int) : Value := .iface 86 (.agg #[.int .i64 m, .iface 74 (.agg #[.int .i64 n])])

theorem failed_any (e : Int) (w : World) :
    Calls Tryz.prog 47 #[.int .i64 e] w fun r w' => r = .returned (errV e) ∧ w' = w := by
  by_cases h : e = 0
  · subst h
    rw [errV_0]
    go_enter Tryz.func47, Tryz.ntmps47
    go_wp2
    go_ret
    exact ⟨rfl, rfl⟩
  · have h' : (e == 0) = false := by simpa using h
    rw [errV_ne h]
    clear h
    go_enter Tryz.func47, Tryz.ntmps47
    go_wp2
    go_ret
    exact ⟨rfl, rfl⟩

set_option maxHeartbeats 1000000 in
theorem tnumber_any (e : Int) (w : World) (hg : ErrT w) :
    Calls Tryz.prog 15 #[errV e] w fun r w' => r = .returned (.int .i64 e) ∧ Below w.heap.size w w' := by
  by_cases h : e = 0
  · subst h
    rw [errV_0]
    go_enter Tryz.func15, Tryz.ntmps15
    go_wp2_with (go_at_call 27; refine (as_nil _ _).mono ?_; rintro e w' ⟨rfl, rfl⟩)
    go_ret
    exact ⟨rfl, by go_grown⟩
  · rw [errV_ne h]
    have HG := hg
    clear h
    go_enter Tryz.func15, Tryz.ntmps15
    go_wp2_with (go_at_call 27; refine (as_hitF e 0 w.heap.size _ (HG.below (by go_grown)) (by simp) (by simp)).mono ?_; rintro e w' ⟨rfl, rfl⟩)
    go_ret
    exact ⟨rfl, by go_grown⟩

set_option maxHeartbeats 1000000 in
theorem tnumber_line (m n : Int) (w : World) (hg : ErrT w) :
    Calls Tryz.prog 15 #[lineV m n] w fun r w' => r = .returned (.int .i64 n) ∧ Below w.heap.size w w' := by
  have HG := hg
  go_enter Tryz.func15, Tryz.ntmps15
  go_wp2_with (go_at_call 27; refine (as_unw m n 0 w.heap.size _ (HG.below (by go_grown)) (by simp) (by simp)).mono ?_; rintro e w' ⟨rfl, rfl⟩)
  go_ret
  exact ⟨rfl, by go_grown⟩

end Go.Proofs.YticmebamclacaabGreatDoor

namespace Go.Proofs.YticmebamclacaabGreatDoor
open Go.RowKit LX Go.Shelf
set_option linter.unusedVariables false

/-- Kinds lie in a slice. -/
def KAt (w : World) (v : Value) (ks : List Int) : Prop := ∃ p c, v = .slice p ks.length c ∧ (ks = [] ∨ ∃ b off, p = some ⟨b, off, none⟩ ∧ b < w.heap.size ∧ ∀ i (h : i < ks.length), w.cell? ⟨b, off + i, none⟩ = some (.int .i64 ks[i]))
theorem KAt.below {w w' : World} {v : Value} {ks : List Int} (h : KAt w v ks) (hb : Below w.heap.size w w') : KAt w' v ks := by
  obtain ⟨p, c, e, h | ⟨b, off, h1, h2, h3⟩⟩ := h
  · exact ⟨p, c, e, Or.inl h⟩
  · exact ⟨p, c, e, Or.inr ⟨b, off, h1, Nat.lt_of_lt_of_le h2 hb.size, fun i hi => (hb.cell (p := ⟨b, _, none⟩) h2).trans (h3 i hi)⟩⟩
theorem KAt.form {w : World} {v : Value} {ks : List Int} (h : KAt w v ks) : ∃ p c, v = .slice p ks.length c ∧ ∀ i (hi : i < ks.length), ∃ b off, p = some ⟨b, off, none⟩ ∧ b < w.heap.size ∧ w.cell? ⟨b, off + i, none⟩ = some (.int .i64 ks[i]) := by
  obtain ⟨p, c, e, h | ⟨b, off, h1, h2, h3⟩⟩ := h
  · exact ⟨p, c, e, fun i hi => by subst h; simp at hi⟩
  · exact ⟨p, c, e, fun i hi => ⟨b, off, h1, h2, h3 i hi⟩⟩
/-- Declarations lie in a slice. -/
def SigAt (w : World) (v : Value) (L : List Dec) : Prop := ∃ p c, v = .slice p L.length c ∧ L.length ≤ c ∧ (L = [] ∨ ∃ b off, p = some ⟨b, off, none⟩ ∧ b < w.heap.size ∧ ∀ i (h : i < L.length), ∃ u, w.cell? ⟨b, off + i * 2, none⟩ = some (.string L[i].name) ∧ w.cell? ⟨b, off + i * 2 + 1, none⟩ = some u ∧ KAt w u L[i].kinds)
theorem SigAt.below {w w' : World} {v : Value} {L : List Dec} (h : SigAt w v L) (hb : Below w.heap.size w w') : SigAt w' v L := by
  obtain ⟨p, c, e, hc, h | ⟨b, off, h1, h2, h3⟩⟩ := h
  · exact ⟨p, c, e, hc, Or.inl h⟩
  · refine ⟨p, c, e, hc, Or.inr ⟨b, off, h1, Nat.lt_of_lt_of_le h2 hb.size, fun i hi => ?_⟩⟩
    obtain ⟨u, a1, a2, a3⟩ := h3 i hi
    exact ⟨u, (hb.cell (p := ⟨b, _, none⟩) h2).trans a1, (hb.cell (p := ⟨b, _, none⟩) h2).trans a2, a3.below hb⟩
theorem SigAt.form {w : World} {v : Value} {L : List Dec} (h : SigAt w v L) : ∃ p c, v = .slice p L.length c ∧ L.length ≤ c ∧ ∀ i (hi : i < L.length), ∃ b off u, p = some ⟨b, off, none⟩ ∧ b < w.heap.size ∧ w.cell? ⟨b, off + i * 2, none⟩ = some (.string L[i].name) ∧ w.cell? ⟨b, off + i * 2 + 1, none⟩ = some u ∧ KAt w u L[i].kinds := by
  obtain ⟨p, c, e, hc, h | ⟨b, off, h1, h2, h3⟩⟩ := h
  · exact ⟨p, c, e, hc, fun i hi => by subst h; simp at hi⟩
  · refine ⟨p, c, e, hc, fun i hi => ?_⟩
    obtain ⟨u, a1, a2, a3⟩ := h3 i hi
    exact ⟨b, off, u, h1, h2, a1, a2, a3⟩
theorem SigAt.take {w : World} {p : Option Addr} {n c : Nat} {L : List Dec} (h : SigAt w (.slice p n c) L) (k : Nat) (hk : k ≤ L.length) : SigAt w (.slice p k c) (L.take k) := by
  obtain ⟨p', c', e, hc, h⟩ := h
  injection e with e1 e2 e3
  subst e1 e3
  refine ⟨p, c, by rw [List.length_take, Nat.min_eq_left hk], by rw [List.length_take, Nat.min_eq_left hk]; omega, ?_⟩
  rcases h with h | ⟨b, off, h1, h2, h3⟩
  · exact Or.inl (by rw [h]; simp)
  · refine Or.inr ⟨b, off, h1, h2, fun i hi => ?_⟩
    have hi' : i < L.length := by rw [List.length_take] at hi; omega
    obtain ⟨u, a1, a2, a3⟩ := h3 i hi'
    rw [List.getElem_take]
    exact ⟨u, a1, a2, a3⟩

theorem beq_ba (a b : ByteArray) : (a.toList == b.toList) = decide (a = b) := by
  rw [ByteArray.toList_eq, ByteArray.toList_eq]
  by_cases h : a = b
  · subst h; simp
  · have : ¬ a.data.toList = b.data.toList := fun e => h (by cases a; cases b; simp at e; rw [e])
    simp only [h, decide_false]
    exact beq_eq_false_iff_ne.mpr this

set_option maxRecDepth 100000 in
theorem findf_any (nm x : ByteArray) (p : Option Addr) (n c : Nat) (B : Nat) (w : World) (hB : B < w.heap.size) (hc : w.cell? ⟨B, 0, none⟩ = some (.string x)) :
    Calls Tryz.prog 58 #[.agg #[.string nm, .slice p n c], .pointer (some ⟨B, 0, none⟩)] w fun e w' => e = .returned (.bool (decide (nm = x))) ∧ Below w.heap.size w w' := by
  have hl := beq_ba nm x
  rw [← hl]
  clear hl
  have hc2 : (w.alloc (.cells #[.string nm, .slice p n c] 42)).cell? ⟨B, 0, none⟩ = some (.string x) := by rw [World.cell?_alloc_lt _ _ ⟨B, 0, none⟩ hB]; exact hc
  go_enter Tryz.func58, Tryz.ntmps58
  go_wp2
  go_ret
  exact ⟨rfl, by go_grown⟩

theorem findI_cons (x : ByteArray) (d : Dec) (l : List Dec) (k : Nat) : findI x (d :: l) k = if d.name = x then (k : Int) else findI x l (k + 1) := rfl

set_option maxRecDepth 100000 in
set_option maxHeartbeats 2000000 in
theorem idxd_any (A : Value) (L : List Dec) (x : ByteArray) (B : Nat) (w : World) (hB : B < w.heap.size) (hc : w.cell? ⟨B, 0, none⟩ = some (.string x)) (hA : SigAt w A L) (lr : L.length ≤ 9223372036854775807) :
    Calls Tryz.prog 57 #[A, .func (.func 58) #[] #[.pointer (some ⟨B, 0, none⟩)]] w fun e w' => e = .returned (.int .i64 (findI x L 0)) ∧ Below w.heap.size w w' := by
  have eg : ∀ args w, (callFunc 58 args).run Tryz.prog w = .ok (.enter 58 args) w := enters_of Tryz.func58 (by kernel_rfl) rfl
  obtain ⟨p, c, rfl, -, HX0⟩ := hA.form
  have HX : Hid (∀ i (hi : i < L.length), ∃ b off u, p = some ⟨b, off, none⟩ ∧ b < w.heap.size ∧ w.cell? ⟨b, off + i * 2, none⟩ = some (.string L[i].name) ∧ w.cell? ⟨b, off + i * 2 + 1, none⟩ = some u ∧ KAt w u L[i].kinds) := HX0
  have HC : Hid (w.cell? ⟨B, 0, none⟩ = some (.string x)) := hc
  obtain ⟨n, en⟩ : ∃ n : Nat, Hid (L.length = n) := ⟨_, rfl⟩
  rw [en.out] at lr ⊢
  clear hA HX0 hc
  go_enter Tryz.func57, Tryz.ntmps57
  go_wp2
  go_loopw [8] (fun i wr => ∃ k : Nat, k ≤ n ∧ i = .int .i64 k ∧ Hid (findI x L 0 = findI x (L.drop k) k) ∧ Below w.heap.size w wr) (fun i _ => n - (intOf i).toNat)
  case atStart => exact ⟨0, Nat.zero_le _, rfl, (show findI x L 0 = findI x (L.drop 0) 0 by simp), Below.refl _ _⟩
  case round =>
    obtain ⟨k, hk, rfl, hr, hBw⟩ := hrel
    by_cases hlt : k < n
    · have kx : k < L.length := by have := en.out; omega
      obtain ⟨b, off, u, rfl, hb, r0, r1, r2⟩ := HX.out k kx
      have a0 := (hBw.cell (p := ⟨b, off + k * 2, none⟩) hb).trans r0
      have a1 := (hBw.cell (p := ⟨b, off + k * 2 + 1, none⟩) hb).trans r1
      have hr2 : Hid (findI x L 0 = if L[k].name = x then (k : Int) else findI x (L.drop (k + 1)) (k + 1)) := by
        have h := hr.out
        rw [List.drop_eq_getElem_cons kx, findI_cons] at h
        exact h
      obtain ⟨pu, cu, rfl, -⟩ := r2.form
      have ct : Hid (Calls Tryz.prog 58 #[.agg #[.string L[k].name, .slice pu L[k].kinds.length cu], .pointer (some ⟨B, 0, none⟩)] wr fun e w' => e = .returned (.bool (decide (L[k].name = x))) ∧ Below wr.heap.size wr w') := findf_any _ x pu _ cu B wr (Nat.lt_of_lt_of_le hB hBw.size) ((hBw.cell (p := ⟨B, 0, none⟩) hB).trans HC.out)
      clear r0 r1 r2 hr
      generalize L[k].kinds.length = nk at a1 ct
      generalize L[k].name = X at a0 hr2 ct
      by_cases hC : X = x
      · have hr3 : Hid (findI x L 0 = k) := by have h := hr2.out; rwa [if_pos hC] at h
        rw [decide_eq_true hC] at ct
        clear hC hr2
        go_wp2_with fail
        refine ct.out.mono ?_
        rintro e w1 ⟨rfl, hw1⟩
        have hB2 : Below w.heap.size w w1 := hBw.trans (hw1.mono hBw.size)
        clear a0 a1 ct hw1
        go_wp2
        go_ret
        exact ⟨reti hr3.out.symm, hB2⟩
      · have hr3 : Hid (findI x L 0 = findI x (L.drop (k + 1)) (k + 1)) := by have h := hr2.out; rwa [if_neg hC] at h
        rw [decide_eq_false hC] at ct
        clear hC hr2
        go_wp2_with fail
        refine ct.out.mono ?_
        rintro e w1 ⟨rfl, hw1⟩
        have hB2 : Below w.heap.size w w1 := hBw.trans (hw1.mono hBw.size)
        clear a0 a1 ct hw1
        go_wp2
        exact ⟨⟨k + 1, by omega, by go_num, hr3, hB2⟩, by simp [intOf]; omega⟩
    · have c2 : ¬ (k : Int) < n := by omega
      have hr3 : Hid (findI x L 0 = -1) := by
        have h := hr.out
        rw [List.drop_eq_nil_of_le (by have := en.out; omega)] at h
        exact h
      go_wp2
      go_ret
      exact ⟨reti hr3.out.symm, hBw⟩

set_option maxRecDepth 100000 in
theorem find_any (A : Value) (L : List Dec) (x : ByteArray) (w : World) (hA : SigAt w A L) (lr : L.length ≤ 9223372036854775807) :
    Calls Tryz.prog 39 #[A, .string x] w fun e w' => e = .returned (.int .i64 (findI x L 0)) ∧ Below w.heap.size w w' := by
  have ct : Hid (Calls Tryz.prog 57 #[A, .func (.func 58) #[] #[.pointer (some ⟨w.heap.size, 0, none⟩)]] (w.alloc (.cells #[.string x] 9)) fun e w' => e = .returned (.int .i64 (findI x L 0)) ∧ Below (w.alloc (.cells #[.string x] 9)).heap.size (w.alloc (.cells #[.string x] 9)) w') := idxd_any A L x w.heap.size _ (by simp) (by simp) (hA.below (by go_grown)) lr
  obtain ⟨p, c, rfl, -⟩ := hA.form
  generalize findI x L 0 = I at *
  generalize L.length = n at *
  clear hA
  go_enter Tryz.func39, Tryz.ntmps39
  go_wp2_with fail
  refine ct.out.mono ?_
  rintro e w1 ⟨rfl, hw1⟩
  obtain ⟨hw2, hn2⟩ := bgX (n := w.heap.size) (W0 := w) (by go_grown) (by go_size) hw1
  clear ct hw1
  go_wp2
  go_ret
  exact ⟨rfl, hw2⟩

/-- The word of a kind. -/
def kwL (k : Int) : List UInt8 := if k = 1 then [105, 110, 116] else if k = 2 then [114, 97, 116] else if k = 3 then [115, 116, 114] else []
theorem kword_any (k : Int) (w : World) :
    Calls Tryz.prog 17 #[.int .i64 k] w fun e w' => e = .returned (.string ⟨(kwL k).toArray⟩) ∧ w' = w := by
  by_cases h1 : k = 1
  · subst h1
    go_enter Tryz.func17, Tryz.ntmps17
    go_wp2
    go_ret
    exact ⟨rfl, rfl⟩
  by_cases h2 : k = 2
  · subst h2
    go_enter Tryz.func17, Tryz.ntmps17
    go_wp2
    go_ret
    exact ⟨rfl, rfl⟩
  by_cases h3 : k = 3
  · subst h3
    go_enter Tryz.func17, Tryz.ntmps17
    go_wp2
    go_ret
    exact ⟨rfl, rfl⟩
  have e1 : (k == 1) = false := by simpa using h1
  have e2 : (k == 2) = false := by simpa using h2
  have e3 : (k == 3) = false := by simpa using h3
  have hz : Hid (kwL k = []) := by unfold Hid kwL; rw [if_neg h1, if_neg h2, if_neg h3]
  rw [hz.out]
  clear h1 h2 h3
  go_enter Tryz.func17, Tryz.ntmps17
  go_wp2
  go_ret
  exact ⟨rfl, rfl⟩

end Go.Proofs.YticmebamclacaabGreatDoor

namespace Go.Proofs.YticmebamclacaabGreatDoor
open Go.RowKit LX
set_option linter.unusedVariables false

theorem wpX_world {P : Program} {c : Code} {Q : Exit → Act → World → Prop} {a : Act} {w : World} (h : ∀ W, W = w → c.wp P Q a W) : c.wp P Q a w := h w rfl
theorem bclX {n : Nat} {W0 wx : World} (h : Below n W0 wx) {a : Addr} {v : Value} (hv : W0.cell? a = some v) (ha : a.block < n) : wx.cell? a = some v := (h.cell ha).trans hv
theorem retE {E n : Int} {v : Value} (h : E = n) (hv : v = errV n) : Ending.returned v = .returned (errV E) := by rw [h, hv]
theorem kwL_some {k : Int} (h : 1 ≤ k ∧ k ≤ 3) : ((⟨(kwL k).toArray⟩ : ByteArray).toList == []) = false := by
  rw [ByteArray.toList_eq]
  have : k = 1 ∨ k = 2 ∨ k = 3 := by omega
  rcases this with rfl | rfl | rfl <;> rfl
theorem kwL_none {k : Int} (h : ¬ (1 ≤ k ∧ k ≤ 3)) : ((⟨(kwL k).toArray⟩ : ByteArray).toList == []) = true := by
  rw [ByteArray.toList_eq]
  unfold kwL
  rw [if_neg (by omega), if_neg (by omega), if_neg (by omega)]
  rfl

set_option maxRecDepth 100000 in
set_option maxHeartbeats 2000000 in
theorem cdecl_any (A V : Value) (L : List Dec) (d : Dec) (w : World) (hA : SigAt w A L) (hV : KAt w V d.kinds) (lL : L.length ≤ 9223372036854775807) (lk : d.kinds.length ≤ 9223372036854775807) :
    Calls Tryz.prog 26 #[A, .agg #[.string d.name, V]] w fun e w' => e = .returned (errV (declE L d)) ∧ Below w.heap.size w w' := by
  have cN : Hid (∀ W : World, Calls Tryz.prog 38 #[.string d.name] W fun e w' => e = .returned (.bool (nameB d.name)) ∧ w' = W) := fun W => name_any d.name W
  have cF : Hid (∀ W : World, Below w.heap.size w W → Calls Tryz.prog 39 #[A, .string d.name] W fun e w' => e = .returned (.int .i64 (findI d.name L 0)) ∧ Below W.heap.size W w') := fun W hW => find_any A L d.name W (hA.below hW) lL
  obtain ⟨pA, cA, rfl, -⟩ := hA.form
  obtain ⟨pk, ck, rfl, HK0⟩ := hV.form
  have HK : Hid (∀ i (hi : i < d.kinds.length), ∃ b off, pk = some ⟨b, off, none⟩ ∧ b < w.heap.size ∧ w.cell? ⟨b, off + i, none⟩ = some (.int .i64 d.kinds[i])) := HK0
  clear hA hV HK0
  obtain ⟨n, en⟩ : ∃ n : Nat, Hid (L.length = n) := ⟨_, rfl⟩
  obtain ⟨m, em⟩ : ∃ m : Nat, Hid (d.kinds.length = m) := ⟨_, rfl⟩
  obtain ⟨X, eX⟩ : ∃ X : ByteArray, Hid (d.name = X) := ⟨_, rfl⟩
  obtain ⟨I, eI⟩ : ∃ I : Int, Hid (findI X L 0 = I) := ⟨_, rfl⟩
  have hD : Hid (declE L d = if nameB X = false ∨ 0 ≤ I then 1 else if 6 < m then 3 else kindsE d.kinds) := by
    unfold Hid declE
    rw [eX.out, eI.out, em.out]
  obtain ⟨E, eE⟩ : ∃ E : Int, Hid (declE L d = E) := ⟨_, rfl⟩
  rw [eE.out] at hD ⊢
  rw [eX.out, eI.out] at cF
  rw [eX.out] at cN
  rw [eX.out, en.out, em.out]
  rw [en.out] at cF lL
  rw [em.out] at lk
  go_enter Tryz.func26, Tryz.ntmps26
  cases hN : nameB X with
  | false =>
    have hE : Hid (E = 1) := by have h := hD.out; rwa [if_pos (Or.inl hN)] at h
    rw [hN] at cN
    go_wp2_with fail
    refine (cN.out _).mono ?_
    rintro e w1 ⟨rfl, rfl⟩
    go_wp2
    go_ret
    exact ⟨retE hE.out rfl, by go_grown⟩
  | true =>
    rw [hN] at cN
    go_wp2_with fail
    refine (cN.out _).mono ?_
    rintro e w1 ⟨rfl, rfl⟩
    go_wp2_with fail
    refine (cF.out _ (by go_grown)).mono ?_
    rintro e w1 ⟨rfl, hb1⟩
    have b0 : w1.cell? ⟨w.heap.size, 1, none⟩ = some (.slice pk m ck) := (hb1.cell (p := ⟨w.heap.size, 1, none⟩) (by simp)).trans (by simp [go_sem])
    have hs1 : w.heap.size < w1.heap.size := by have := hb1.size; simp at this; omega
    obtain ⟨hB1, -⟩ := bgX (n := w.heap.size) (W0 := w) (by go_grown) (by go_size) hb1
    clear hb1 cF cN
    by_cases hI : 0 ≤ I
    · have hE : Hid (E = 1) := by have h := hD.out; rwa [if_pos (Or.inr hI)] at h
      go_wp2
      go_ret
      exact ⟨retE hE.out rfl, hB1⟩
    · have hE1 : Hid (E = if 6 < m then 3 else kindsE d.kinds) := by have h := hD.out; rwa [if_neg (by rw [hN]; simp; omega)] at h
      have hI' : I < 0 := by omega
      by_cases h6 : 6 < m
      · have hE : Hid (E = 3) := by have h := hE1.out; rwa [if_pos h6] at h
        have h6' : (6 : Int) < m := by omega
        go_wp2
        go_ret
        exact ⟨retE hE.out rfl, hB1⟩
      · have hE : Hid (E = kindsE d.kinds) := by have h := hE1.out; rwa [if_neg h6] at h
        have h6' : ¬ (6 : Int) < m := by omega
        clear hE1 hD
        go_wp2
        go_loop [29] (fun i => ∃ k : Nat, k ≤ m ∧ i = .int .i64 k ∧ Hid (E = kindsE (d.kinds.drop k))) (fun i => m - (intOf i).toNat)
        case atStart => exact ⟨0, Nat.zero_le _, rfl, by rw [List.drop_zero]; exact hE⟩
        case round =>
          obtain ⟨k, hk, rfl, hr⟩ := hrel
          by_cases hlt : k < m
          · have kx : k < d.kinds.length := by have := em.out; omega
            obtain ⟨b, off, rfl, hb, r0⟩ := HK.out k kx
            have a0 := (hB1.cell (p := ⟨b, off + k, none⟩) hb).trans r0
            have hr2 : Hid (E = if 1 ≤ d.kinds[k] ∧ d.kinds[k] ≤ 3 then kindsE (d.kinds.drop (k + 1)) else 20) := by
              have h := hr.out
              rw [List.drop_eq_getElem_cons kx] at h
              exact h
            clear r0 hr
            generalize d.kinds[k] = K at a0 hr2
            have cK : Hid (∀ W : World, Calls Tryz.prog 17 #[.int .i64 K] W fun e w' => e = .returned (.string ⟨(kwL K).toArray⟩) ∧ w' = W) := fun W => kword_any K W
            by_cases hK : 1 ≤ K ∧ K ≤ 3
            · have hr3 : Hid (E = kindsE (d.kinds.drop (k + 1))) := by have h := hr2.out; rwa [if_pos hK] at h
              have hs := kwL_some hK
              generalize (⟨(kwL K).toArray⟩ : ByteArray) = S at cK hs
              clear hK hr2
              go_wp2_with fail
              refine (cK.out _).mono ?_
              rintro e w2 ⟨rfl, rfl⟩
              clear cK
              go_wp2
              exact ⟨⟨k + 1, by omega, by go_num, hr3⟩, by simp [intOf]; omega⟩
            · have hr3 : Hid (E = 20) := by have h := hr2.out; rwa [if_neg hK] at h
              have hs := kwL_none hK
              generalize (⟨(kwL K).toArray⟩ : ByteArray) = S at cK hs
              clear hK hr2
              go_wp2_with fail
              refine (cK.out _).mono ?_
              rintro e w2 ⟨rfl, rfl⟩
              clear cK
              go_wp2
              go_ret
              exact ⟨retE hr3.out rfl, hB1⟩
          · have c2 : ¬ (k : Int) < m := by omega
            have hr3 : Hid (E = 0) := by
              have h := hr.out
              rw [List.drop_eq_nil_of_le (by have := em.out; omega)] at h
              exact h
            go_wp2
            go_ret
            exact ⟨retE hr3.out rfl, hB1⟩

set_option maxRecDepth 100000 in
set_option maxHeartbeats 2000000 in
theorem csig_any (A : Value) (L : List Dec) (w : World) (hA : SigAt w A L) (lL : L.length ≤ 9223372036854775807) (lk : ∀ d ∈ L, d.kinds.length ≤ 9223372036854775807) :
    Calls Tryz.prog 14 #[A] w fun e w' => e = .returned (errV (sigE L)) ∧ Below w.heap.size w w' := by
  have HA : Hid (SigAt w A L) := hA
  obtain ⟨p, c, rfl, hc, HX0⟩ := hA.form
  have HX : Hid (∀ i (hi : i < L.length), ∃ b off u, p = some ⟨b, off, none⟩ ∧ b < w.heap.size ∧ w.cell? ⟨b, off + i * 2, none⟩ = some (.string L[i].name) ∧ w.cell? ⟨b, off + i * 2 + 1, none⟩ = some u ∧ KAt w u L[i].kinds) := HX0
  clear hA HX0
  obtain ⟨n, en⟩ : ∃ n : Nat, Hid (L.length = n) := ⟨_, rfl⟩
  obtain ⟨E, eE⟩ : ∃ E : Int, Hid (sigE L = E) := ⟨_, rfl⟩
  rw [en.out] at lL hc HA
  rw [eE.out, en.out]
  go_enter Tryz.func14, Tryz.ntmps14
  by_cases h32 : 32 < n
  · have hE : Hid (E = 3) := by have h := eE.out; unfold sigE at h; rw [if_pos (by have := en.out; omega)] at h; exact h.symm
    have h' : (32 : Int) < n := by omega
    go_wp2
    go_ret
    exact ⟨retE hE.out rfl, Below.refl _ _⟩
  · have hE : Hid (E = sigO [] L) := by have h := eE.out; unfold sigE at h; rw [if_neg (by have := en.out; omega)] at h; exact h.symm
    have h' : ¬ (32 : Int) < n := by omega
    go_wp2
    go_loopw [13] (fun i wr => ∃ k : Nat, k ≤ n ∧ i = .int .i64 k ∧ Hid (E = sigO (L.take k) (L.drop k)) ∧ Below w.heap.size w wr) (fun i _ => n - (intOf i).toNat)
    case atStart => exact ⟨0, Nat.zero_le _, rfl, by rw [List.drop_zero]; exact hE, Below.refl _ _⟩
    case round =>
      obtain ⟨k, hk, rfl, hr, hBw⟩ := hrel
      by_cases hlt : k < n
      · have kx : k < L.length := by have := en.out; omega
        obtain ⟨b, off, u, rfl, hb, r0, r1, r2⟩ := HX.out k kx
        have a0 := (hBw.cell (p := ⟨b, off + k * 2, none⟩) hb).trans r0
        have a1 := (hBw.cell (p := ⟨b, off + k * 2 + 1, none⟩) hb).trans r1
        have hr2 : Hid (E = if declE (L.take k) L[k] = 0 then sigO (L.take (k + 1)) (L.drop (k + 1)) else declE (L.take k) L[k]) := by
          have h := hr.out
          rw [List.drop_eq_getElem_cons kx] at h
          rw [h, List.take_succ_eq_append_getElem kx]
          rfl
        obtain ⟨pu, cu, hu, -⟩ := r2.form
        subst hu
        obtain ⟨D, eD⟩ : ∃ D : Int, Hid (declE (L.take k) L[k] = D) := ⟨declE (L.take k) L[k], (show _ = _ from rfl)⟩
        have kc : k ≤ c := by omega
        have ct : Hid (∀ W : World, Below wr.heap.size wr W → Calls Tryz.prog 26 #[.slice (some ⟨b, off, none⟩) k c, .agg #[.string L[k].name, .slice pu L[k].kinds.length cu]] W fun e w' => e = .returned (errV D) ∧ Below W.heap.size W w') := fun W hW => by
          have hWw := hBw.trans (hW.mono hBw.size)
          have h := cdecl_any (.slice (some ⟨b, off, none⟩) k c) (.slice pu L[k].kinds.length cu) (L.take k) L[k] W ((HA.out.take k (by omega)).below hWw) (r2.below hWw) (by rw [List.length_take]; omega) (lk _ (List.getElem_mem kx))
          rw [eD.out] at h
          exact h
        rw [eD.out] at hr2
        have hbr : b < wr.heap.size := Nat.lt_of_lt_of_le hb hBw.size
        clear r0 r1 r2 hr eD
        generalize L[k].kinds.length = nk at a1 ct
        generalize L[k].name = X at a0 ct
        by_cases hD : D = 0
        · have hr3 : Hid (E = sigO (L.take (k + 1)) (L.drop (k + 1))) := by have h := hr2.out; rwa [if_pos hD] at h
          subst hD
          rw [errV_0] at ct
          clear hr2
          go_upto_region 6 with fail
          refine wpX_world ?_
          intro W0 hW0
          have d0 : W0.cell? ⟨wr.heap.size, 0, none⟩ = some (.string X) := by rw [hW0]; simp [go_sem]
          have d1 : W0.cell? ⟨wr.heap.size, 1, none⟩ = some (.slice pu nk cu) := by rw [hW0]; simp [go_sem]
          have k0 : Below wr.heap.size wr W0 := by rw [hW0]; go_grown
          have k1 : wr.heap.size < W0.heap.size := by rw [hW0]; simp
          clear hW0 a0 a1
          go_region_held3 (fun w' => w'.cell? ⟨wr.heap.size, 0, none⟩ = some (.string X) ∧ w'.cell? ⟨wr.heap.size, 1, none⟩ = some (.slice pu nk cu)) (exact ⟨bclX (n := W0.heap.size) (by go_grown) d0 k1, bclX (n := W0.heap.size) (by go_grown) d1 k1⟩)
            (first
              | (go_at_call 26; refine (ct.out _ (k0.trans (Below.mono (B := W0.heap.size) (by go_grown) k0.size))).mono ?_; rintro e w1 ⟨rfl, hb1⟩; obtain ⟨hB1, hn1⟩ := bgX (n := W0.heap.size) (W0 := W0) (by go_grown) (by go_size) hb1))
          all_goals
            have K9 : Below w.heap.size w w1 := hBw.trans ((k0.trans (hB1.mono k0.size)).mono hBw.size)
            clear ct d0 d1 hB1 hn1 hb1
            go_wp2
            exact ⟨⟨k + 1, by omega, by go_num, hr3, K9⟩, by simp [intOf]; omega⟩
        · have hr3 : Hid (E = D) := by have h := hr2.out; rwa [if_neg hD] at h
          have hd : Hid (errV D = .iface 74 (.agg #[.int .i64 D])) := errV_ne hD
          rw [hd.out] at ct
          clear hr2 hD
          go_upto_region 6 with fail
          refine wpX_world ?_
          intro W0 hW0
          have d0 : W0.cell? ⟨wr.heap.size, 0, none⟩ = some (.string X) := by rw [hW0]; simp [go_sem]
          have d1 : W0.cell? ⟨wr.heap.size, 1, none⟩ = some (.slice pu nk cu) := by rw [hW0]; simp [go_sem]
          have k0 : Below wr.heap.size wr W0 := by rw [hW0]; go_grown
          have k1 : wr.heap.size < W0.heap.size := by rw [hW0]; simp
          clear hW0 a0 a1
          go_region_held3 (fun w' => w'.cell? ⟨wr.heap.size, 0, none⟩ = some (.string X) ∧ w'.cell? ⟨wr.heap.size, 1, none⟩ = some (.slice pu nk cu)) (exact ⟨bclX (n := W0.heap.size) (by go_grown) d0 k1, bclX (n := W0.heap.size) (by go_grown) d1 k1⟩)
            (first
              | (go_at_call 26; refine (ct.out _ (k0.trans (Below.mono (B := W0.heap.size) (by go_grown) k0.size))).mono ?_; rintro e w1 ⟨rfl, hb1⟩; obtain ⟨hB1, hn1⟩ := bgX (n := W0.heap.size) (W0 := W0) (by go_grown) (by go_size) hb1))
          all_goals
            have K9 : Below w.heap.size w w1 := hBw.trans ((k0.trans (hB1.mono k0.size)).mono hBw.size)
            clear ct d0 d1 hB1 hn1 hb1
            go_wp2
            go_ret
            exact ⟨retE hr3.out hd.out.symm, K9⟩
      · have c2 : ¬ (k : Int) < n := by omega
        have hr3 : Hid (E = 0) := by
          have h := hr.out
          rw [List.drop_eq_nil_of_le (by have := en.out; omega)] at h
          exact h
        go_wp2
        go_ret
        exact ⟨retE hr3.out rfl, hBw⟩

end Go.Proofs.YticmebamclacaabGreatDoor

namespace Go.Proofs.YticmebamclacaabGreatDoor

/-- How far a number is from 0. -/
def sz (n : Int) : Int := (n.natAbs : Int)
/-- The greatest common divisor of two numbers from 0 on. -/
def gc (a b : Int) : Int := ((Nat.gcd a.toNat b.toNat : Nat) : Int)

theorem sz_of_neg {n : Int} (h : n < 0) : sz n = -n := by unfold sz; omega
theorem sz_of_nonneg {n : Int} (h : 0 ≤ n) : sz n = n := by unfold sz; omega
theorem sz_nonneg (n : Int) : 0 ≤ sz n := by unfold sz; omega
theorem sz_le {n : Int} (h1 : -9223372036854775808 ≤ n) (h2 : n ≤ 9223372036854775807) : sz n ≤ 9223372036854775808 := by unfold sz; omega
theorem gc_zero (a : Int) (h : 0 ≤ a) : gc a 0 = a := by unfold gc; simp; omega
theorem gc_step (a b : Int) (ha : 0 ≤ a) (hb : 0 < b) : gc b (a % b) = gc a b := by
  unfold gc
  have e : (a % b).toNat = a.toNat % b.toNat := by
    obtain ⟨x, rfl⟩ := Int.eq_ofNat_of_zero_le ha
    obtain ⟨y, rfl⟩ := Int.eq_ofNat_of_zero_le (Int.le_of_lt hb)
    simp [← Int.natCast_emod]
  rw [e, Nat.gcd_comm b.toNat, ← Nat.gcd_rec, Nat.gcd_comm]

/-- A number by its sign and size. -/
def sg (b : Bool) (n : Int) : Int := if b then -n else n
/-- Does a fraction in its least form fit 64 bits? What is told of it: N, D, the error. -/
def okF (p q : Int) : Bool := decide (-9223372036854775808 ≤ p ∧ p ≤ 9223372036854775807 ∧ q ≤ 9223372036854775807)
def outN (p q : Int) : Int := if okF p q then p else 0
def outD (p q : Int) : Int := if okF p q then q else 0
def outE (p q : Int) : Int := if okF p q then 0 else 10

/-- p / q, q above 0, in its least form, if that fits. -/
def rN (p q : Int) : Int := outN (p / gc (sz p) q) (q / gc (sz p) q)
def rD (p q : Int) : Int := outD (p / gc (sz p) q) (q / gc (sz p) q)
def rE (p q : Int) : Int := outE (p / gc (sz p) q) (q / gc (sz p) q)

theorem sz_sg (b : Bool) (n : Int) : sz (sg b n) = sz n := by unfold sz sg; split <;> omega
theorem gc_pos (a b : Int) (hb : 0 < b) : 0 < gc a b := by
  unfold gc
  have : 0 < Nat.gcd a.toNat b.toNat := Nat.gcd_pos_of_pos_right _ (by omega)
  omega
theorem gc_dvd_left (a b : Int) (ha : 0 ≤ a) : gc a b ∣ a := by
  unfold gc
  have h := Int.natCast_dvd_natCast.2 (Nat.gcd_dvd_left a.toNat b.toNat)
  have e : ((a.toNat : Nat) : Int) = a := by omega
  rwa [e] at h
theorem gc_dvd_right (a b : Int) (hb : 0 ≤ b) : gc a b ∣ b := by
  unfold gc
  have h := Int.natCast_dvd_natCast.2 (Nat.gcd_dvd_right a.toNat b.toNat)
  have e : ((b.toNat : Nat) : Int) = b := by omega
  rwa [e] at h
theorem sg_div (b : Bool) (n g : Int) (h : g ∣ n) : sg b (n / g) = sg b n / g := by
  unfold sg; split
  · exact (Int.neg_ediv_of_dvd h).symm
  · rfl
theorem sg_sz (n : Int) (b : Bool) : sg (decide (n < 0) != b) (sz n) = sg b n := by
  unfold sg sz
  by_cases h : n < 0 <;> cases b <;> simp [h] <;> omega
theorem div_le_self (a g : Int) (ha : 0 ≤ a) (hg : 0 < g) : a / g ≤ a := by
  have h1 := Int.ediv_mul_le a (show g ≠ 0 by omega)
  have h2 : 0 ≤ a / g := Int.ediv_nonneg ha (by omega)
  have h3 : a / g * 1 ≤ a / g * g := Int.mul_le_mul_of_nonneg_left (by omega) h2
  omega

end Go.Proofs.YticmebamclacaabGreatDoor

namespace Go.Proofs.YticmebamclacaabGreatDoor
open Go.RowKit

theorem ret_int {k : IntKind} {a b : Int} (h : a = b) : Ending.returned (.int k a) = .returned (.int k b) := by rw [h]

theorem bdrewN {B : Nat} {a w : World} (n : Nat) (h : Below B a w) : Below B a (w.drewN n) := ⟨h.os, h.tape, h.output, h.size, h.block⟩

/-- What a caller knows of the world behind a callee that only makes new memory: old cells and marks, the heap's size, and that nothing older has turned. -/
theorem bf {w W w1 : World} (h0 : Below w.heap.size w W) (hb : Below W.heap.size W w1) :
    (∀ b o, b < W.heap.size → w1.cell? ⟨b, o, none⟩ = W.cell? ⟨b, o, none⟩) ∧ (∀ b o, b < W.heap.size → w1.frozen? ⟨b, o, none⟩ = W.frozen? ⟨b, o, none⟩) ∧ W.heap.size ≤ w1.heap.size ∧ Below w.heap.size w w1 :=
  ⟨fun b o h => hb.cell (p := ⟨b, o, none⟩) h, fun b o h => hb.frozen (p := ⟨b, o, none⟩) h, hb.size, h0.trans (hb.mono h0.size)⟩

set_option maxHeartbeats 400000 in
theorem size_any (n : Int) (w : World) (h1 : -9223372036854775808 ≤ n) (h2 : n ≤ 9223372036854775807) :
    Calls Tryz.prog 105 #[.int .i64 n] w fun e w' => e = .returned (.int .u64 (sz n)) ∧ w' = w := by
  by_cases h : n < 0
  · go_enter Tryz.func105, Tryz.ntmps105
    go_wp2
    go_ret
    exact ⟨ret_int (by rw [sz_of_neg h]; go_arith), rfl⟩
  · have h' : 0 ≤ n := by omega
    go_enter Tryz.func105, Tryz.ntmps105
    go_wp2
    go_ret
    exact ⟨ret_int (by rw [sz_of_nonneg h']), rfl⟩

set_option maxHeartbeats 400000 in
theorem divisor_any (a b : Int) (w : World) (ha : 0 ≤ a) (hb : 0 ≤ b) (ha' : a ≤ 18446744073709551615) (hb' : b ≤ 18446744073709551615) :
    Calls Tryz.prog 106 #[.int .u64 a, .int .u64 b] w fun e w' => e = .returned (.int .u64 (gc a b)) ∧ ∃ k, w' = w.drewN k := by
  go_enter Tryz.func106, Tryz.ntmps106
  go_wp2
  go_loopw [0, 1] (fun u v wr => ∃ x y : Int, 0 ≤ x ∧ 0 ≤ y ∧ x ≤ 18446744073709551615 ∧ y ≤ 18446744073709551615 ∧ Hid (gc x y = gc a b) ∧ u = .int .u64 x ∧ v = .int .u64 y ∧ ∃ k, wr = w.drewN k) (fun _ v _ => (intOf v).toNat)
  case atStart => exact ⟨a, b, ha, hb, ha', hb', rfl, rfl, rfl, 0, rfl⟩
  case round =>
    obtain ⟨x, y, hx, hy, hx', hy', hg, rfl, rfl, k, rfl⟩ := hrel
    by_cases hz : y = 0
    · subst hz
      go_wp2
      go_ret
      exact ⟨ret_int (by rw [← hg.out, gc_zero _ hx]), k, rfl⟩
    · have hz' : (y != 0) = true := by simpa using hz
      have hp : 0 < y := by omega
      go_wp2
      go_quiet (fail)
      go_wp2
      exact ⟨⟨y, x % y, hy, Int.emod_nonneg _ hz, hy', by have := Int.emod_lt_of_pos x hp; omega, (gc_step x y hx hp).trans hg.out, rfl, rfl, k + nq, World.drewN_drewN ..⟩, by have := Int.emod_lt_of_pos x hp; have := Int.emod_nonneg x hz; simp [intOf]; omega⟩

theorem out_yes {p q : Int} (h1 : -9223372036854775808 ≤ p) (h2 : p ≤ 9223372036854775807) (h3 : q ≤ 9223372036854775807) : outN p q = p ∧ outD p q = q ∧ outE p q = 0 := by
  have h : okF p q = true := by simp [okF]; omega
  simp [outN, outD, outE, h]
theorem out_no {p q : Int} (h : ¬ (-9223372036854775808 ≤ p ∧ p ≤ 9223372036854775807 ∧ q ≤ 9223372036854775807)) : outN p q = 0 ∧ outD p q = 0 ∧ outE p q = 10 := by
  have h : okF p q = false := by simp [okF]; omega
  simp [outN, outD, outE, h]

theorem ret_frac {a b c a' b' c' : Int} (h1 : a = a') (h2 : b = b') (h3 : c = c') : Ending.returned (.tuple #[.agg #[.int .i64 a, .int .i64 b], .int .i64 c]) = Ending.returned (.tuple #[.agg #[.int .i64 a', .int .i64 b'], .int .i64 c']) := by rw [h1, h2, h3]

set_option maxHeartbeats 1000000 in
theorem fit_any (b : Bool) (n d : Int) (w : World) (h0 : 0 ≤ n) (h1 : n ≤ 18446744073709551615) (g0 : 0 ≤ d) (g1 : d ≤ 18446744073709551615) :
    Calls Tryz.prog 107 #[.agg #[.bool b, .int .u64 n, .int .u64 d]] w fun e w' => e = .returned (.tuple #[.agg #[.int .i64 (outN (sg b n) d), .int .i64 (outD (sg b n) d)], .int .i64 (outE (sg b n) d)]) ∧ Below w.heap.size w w' := by
  cases b
  · by_cases a1 : n ≤ 9223372036854775807
    · by_cases a2 : d ≤ 9223372036854775807
      · obtain ⟨e1, e2, e3⟩ := out_yes (p := n) (q := d) (by omega) a1 a2
        have H1 : Hid (outN (sg false n) d = n) := e1
        have H2 : Hid (outD (sg false n) d = d) := e2
        have H3 : Hid (outE (sg false n) d = 0) := e3
        clear e1 e2 e3
        go_enter Tryz.func107, Tryz.ntmps107
        go_wp2
        go_returns
        exact ⟨ret_frac H1.out.symm H2.out.symm H3.out.symm, by go_grown⟩
      · obtain ⟨e1, e2, e3⟩ := out_no (p := n) (q := d) (by omega)
        have H1 : Hid (outN (sg false n) d = 0) := e1
        have H2 : Hid (outD (sg false n) d = 0) := e2
        have H3 : Hid (outE (sg false n) d = 10) := e3
        clear e1 e2 e3
        go_enter Tryz.func107, Tryz.ntmps107
        go_wp2
        go_returns
        exact ⟨ret_frac H1.out.symm H2.out.symm H3.out.symm, by go_grown⟩
    · obtain ⟨e1, e2, e3⟩ := out_no (p := n) (q := d) (by omega)
      have H1 : Hid (outN (sg false n) d = 0) := e1
      have H2 : Hid (outD (sg false n) d = 0) := e2
      have H3 : Hid (outE (sg false n) d = 10) := e3
      clear e1 e2 e3
      go_enter Tryz.func107, Tryz.ntmps107
      go_wp2
      go_returns
      exact ⟨ret_frac H1.out.symm H2.out.symm H3.out.symm, by go_grown⟩
  · by_cases a1 : n ≤ 9223372036854775808
    · by_cases a2 : d ≤ 9223372036854775807
      · obtain ⟨e1, e2, e3⟩ := out_yes (p := -n) (q := d) (by omega) (by omega) a2
        have H1 : Hid (outN (sg true n) d = -n) := e1
        have H2 : Hid (outD (sg true n) d = d) := e2
        have H3 : Hid (outE (sg true n) d = 0) := e3
        clear e1 e2 e3
        go_enter Tryz.func107, Tryz.ntmps107
        go_wp2
        go_returns
        exact ⟨ret_frac (H1.out.trans (by go_arith)).symm H2.out.symm H3.out.symm, by go_grown⟩
      · obtain ⟨e1, e2, e3⟩ := out_no (p := -n) (q := d) (by omega)
        have H1 : Hid (outN (sg true n) d = 0) := e1
        have H2 : Hid (outD (sg true n) d = 0) := e2
        have H3 : Hid (outE (sg true n) d = 10) := e3
        clear e1 e2 e3
        go_enter Tryz.func107, Tryz.ntmps107
        go_wp2
        go_returns
        exact ⟨ret_frac H1.out.symm H2.out.symm H3.out.symm, by go_grown⟩
    · obtain ⟨e1, e2, e3⟩ := out_no (p := -n) (q := d) (by omega)
      have H1 : Hid (outN (sg true n) d = 0) := e1
      have H2 : Hid (outD (sg true n) d = 0) := e2
      have H3 : Hid (outE (sg true n) d = 10) := e3
      clear e1 e2 e3
      go_enter Tryz.func107, Tryz.ntmps107
      go_wp2
      go_returns
      exact ⟨ret_frac H1.out.symm H2.out.symm H3.out.symm, by go_grown⟩

end Go.Proofs.YticmebamclacaabGreatDoor

namespace Go.Proofs.YticmebamclacaabGreatDoor
open Go.RowKit

theorem u64_tdiv (a b : Int) (ha : 0 ≤ a) (ha' : a ≤ 18446744073709551615) (hb : 0 < b) : IntKind.u64.wrap (a.tdiv b) = a / b := by
  rw [Int.tdiv_eq_ediv_of_nonneg ha, IntKind.wrap_u64]
  have h1 := div_le_self a b ha hb
  have h2 : 0 ≤ a / b := Int.ediv_nonneg ha (by omega)
  omega

set_option maxHeartbeats 400000 in
theorem of_zero (n : Int) (w : World) :
    Calls Tryz.prog 87 #[.int .i64 n, .int .i64 0] w fun e w' => e = .returned (.tuple #[.agg #[.int .i64 0, .int .i64 0], .int .i64 11]) ∧ Below w.heap.size w w' := by
  go_enter Tryz.func87, Tryz.ntmps87
  go_wp2
  go_returns
  exact ⟨rfl, by go_grown⟩

set_option maxHeartbeats 400000 in
theorem of_raw (n d : Int) (w : World) (h1 : -9223372036854775808 ≤ n) (h2 : n ≤ 9223372036854775807) (g1 : -9223372036854775808 ≤ d) (g2 : d ≤ 9223372036854775807) (hd : (d == 0) = false) :
    Calls Tryz.prog 87 #[.int .i64 n, .int .i64 d] w fun e w' => (∃ b : Bool, b = (!(decide (n < 0) == decide (d < 0))) ∧ e = .returned (.tuple #[.agg #[.int .i64 (outN (sg b (sz n / gc (sz n) (sz d))) (sz d / gc (sz n) (sz d))), .int .i64 (outD (sg b (sz n / gc (sz n) (sz d))) (sz d / gc (sz n) (sz d)))], .int .i64 (outE (sg b (sz n / gc (sz n) (sz d))) (sz d / gc (sz n) (sz d)))])) ∧ Below w.heap.size w w' := by
  have hd' : d ≠ 0 := by simpa using hd
  have hz : 0 < sz d := by unfold sz; omega
  have hz2 := sz_nonneg n
  have hz3 := sz_le h1 h2
  have hz4 := sz_le g1 g2
  have hp := gc_pos (sz n) (sz d) hz
  have q1 : 0 ≤ sz n / gc (sz n) (sz d) := Int.ediv_nonneg hz2 (by omega)
  have q2 : 0 ≤ sz d / gc (sz n) (sz d) := Int.ediv_nonneg (by omega) (by omega)
  have q3 := div_le_self (sz n) _ hz2 hp
  have q4 := div_le_self (sz d) _ (by omega) hp
  have hne : ¬ gc (sz n) (sz d) = 0 := by omega
  have t1 := u64_tdiv (sz n) (gc (sz n) (sz d)) hz2 (by omega) hp
  have t2 := u64_tdiv (sz d) (gc (sz n) (sz d)) (by omega) (by omega) hp
  clear hd'
  go_enter Tryz.func87, Tryz.ntmps87
  go_wp2_with (first
    | (go_at_call 105; refine (size_any _ _ (by omega) (by omega)).mono ?_; rintro e w' ⟨rfl, rfl⟩)
    | (go_at_call 106; refine (divisor_any _ _ _ (by omega) (by omega) (by omega) (by omega)).mono ?_; rintro e w' ⟨rfl, k, rfl⟩))
  go_region_held3 (fun _ => True) (trivial)
    (first
      | (go_at_call 107; refine (fit_any _ _ _ _ q1 (by omega) q2 (by omega)).mono ?_; rintro e w1 ⟨rfl, hb⟩; obtain ⟨hc, hf, hz5, hB⟩ := bf (w := w) (bdrewN _ (by go_grown)) hb))
  go_wp2
  refine bodyPost_ret (by simp [results, Tryz.results87, go_sem, hc]; try rfl) rfl ?_
  refine ⟨⟨_, rfl, rfl⟩, ?_⟩
  go_grown

/-- The numerator that Of takes to the least form: d's sign goes there. -/
def ofP (n d : Int) : Int := sg (decide (d < 0)) n

theorem of_any (n d : Int) (w : World) (h1 : -9223372036854775808 ≤ n) (h2 : n ≤ 9223372036854775807) (g1 : -9223372036854775808 ≤ d) (g2 : d ≤ 9223372036854775807) (hd : (d == 0) = false) :
    Calls Tryz.prog 87 #[.int .i64 n, .int .i64 d] w fun e w' => e = .returned (.tuple #[.agg #[.int .i64 (rN (ofP n d) (sz d)), .int .i64 (rD (ofP n d) (sz d))], .int .i64 (rE (ofP n d) (sz d))]) ∧ Below w.heap.size w w' := by
  refine (of_raw n d w h1 h2 g1 g2 hd).mono ?_
  rintro e w' ⟨⟨b, rfl, rfl⟩, hb⟩
  refine ⟨?_, hb⟩
  have e1 : sg (!(decide (n < 0) == decide (d < 0))) (sz n / gc (sz n) (sz d)) = ofP n d / gc (sz n) (sz d) := by
    rw [sg_div _ _ _ (gc_dvd_left _ _ (sz_nonneg n))]
    exact congrArg (· / gc (sz n) (sz d)) (sg_sz n (decide (d < 0)))
  have e2 : sz (ofP n d) = sz n := sz_sg _ _
  unfold rN rD rE
  rw [e1, e2]

/-- What Of tells of any two numbers. -/
def oN (n d : Int) : Int := if d = 0 then 0 else rN (ofP n d) (sz d)
def oD (n d : Int) : Int := if d = 0 then 0 else rD (ofP n d) (sz d)
def oE (n d : Int) : Int := if d = 0 then 11 else rE (ofP n d) (sz d)

theorem of_all (n d : Int) (w : World) (h1 : -9223372036854775808 ≤ n) (h2 : n ≤ 9223372036854775807) (g1 : -9223372036854775808 ≤ d) (g2 : d ≤ 9223372036854775807) :
    Calls Tryz.prog 87 #[.int .i64 n, .int .i64 d] w fun e w' => e = .returned (.tuple #[.agg #[.int .i64 (oN n d), .int .i64 (oD n d)], .int .i64 (oE n d)]) ∧ Below w.heap.size w w' := by
  unfold oN oD oE
  by_cases h : d = 0
  · subst h; simpa using of_zero n w
  · simpa [h] using of_any n d w h1 h2 g1 g2 (by simpa using h)

/-- May a fraction be, by Of alone? -/
def mayB (n d : Int) : Bool := oE n d == 0 && (oN n d == n && oD n d == d)

end Go.Proofs.YticmebamclacaabGreatDoor
