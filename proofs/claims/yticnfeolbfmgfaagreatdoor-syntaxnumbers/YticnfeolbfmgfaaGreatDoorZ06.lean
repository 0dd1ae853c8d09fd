/- Regexes, at any reader, where one regex is read. -/
import Derived.Test.YticnfeolbfmgfaaGreatDoorZ05
import Derived.Test.YticnfeolbfmgfaaGreatDoorZ03
import Derived.Test.YticnfeolbfmgfaaGreatDoorZ04
import Derived.Test.YticnfeolbfmgfaaGreatDoorZ01

namespace Go.Proofs.YticnfeolbfmgfaaGreatDoor
open Go.RowKit LX Go.Shelf
set_option linter.unusedVariables false

theorem andT_ok {x : Int × (Int × Int)} {K : Int × Int → Int × (Int × Int)} (h : OkS x.2) (hK : ∀ s, OkS s → OkS (K s).2) : OkS (andT x K).2 := by
  unfold andT
  split
  · exact hK _ h
  · exact h
theorem both_okS : ∀ m : Nat, (∀ (fs : List Fm) (dep : Int) (s : Int × Int), SizeOf.sizeOf fs ≤ m → OkS s → 0 ≤ dep → OkS (fruns dep s fs).2) ∧ (∀ (rs : List Rx) (dep : Int) (s : Int × Int), SizeOf.sizeOf rs ≤ m → OkS s → 0 ≤ dep → OkS (rruns dep s rs).2) := by
  intro m
  induction m with
  | zero => exact ⟨fun fs dep s hm => by cases fs <;> simp at hm, fun rs dep s hm => by cases rs <;> simp at hm⟩
  | succ m ih =>
    constructor
    · intro fs dep s hm hs hd
      cases fs with
      | nil => rw [fruns_nil]; exact hs
      | cons f l =>
        have s1 : SizeOf.sizeOf l ≤ m := by simp at hm; omega
        have s2 : SizeOf.sizeOf f.subs ≤ m := by have := Fm.subs_lt f; simp at hm; omega
        have s3 : SizeOf.sizeOf f.rgx ≤ m := by have := Fm.rgx_lt f; simp at hm; omega
        rw [fruns_cons, frun_eq]
        exact andT_ok (andT_ok (meetS_ok hs hd) fun s h => andT_ok h fun s h => andT_ok (truns_ok _ _ _ _ (Nat.le_refl _) h (by omega)) fun s h => andT_ok (ih.2 _ _ _ s3 h (by omega)) fun s h => ih.1 _ _ _ s2 h (by omega)) fun s h => ih.1 _ _ _ s1 h hd
    · intro rs dep s hm hs hd
      cases rs with
      | nil => rw [rruns_nil]; exact hs
      | cons r l =>
        have s1 : SizeOf.sizeOf l ≤ m := by simp at hm; omega
        have s2 : SizeOf.sizeOf r.subs ≤ m := by have := Rx.subs_lt r; simp at hm; omega
        have s3 : SizeOf.sizeOf r.test ≤ m := by have := Rx.test_lt r; simp at hm; omega
        rw [rruns_cons, rrun_eq]
        exact andT_ok (andT_ok (meetS_ok hs hd) fun s h => andT_ok h fun s h => andT_ok (ih.1 _ _ _ s3 h (by omega)) fun s h => ih.2 _ _ _ s2 h (by omega)) fun s h => ih.2 _ _ _ s1 h hd
theorem frun_okS (f : Fm) : OkS (frun 1 (0, 0) f).2 := by
  have h := (both_okS _).1 [f] 1 (0, 0) (Nat.le_refl _) ⟨by decide, by decide, by decide, by decide⟩ (by decide)
  rw [fruns_one] at h
  exact h
theorem chk_good {f : Fm} (h : chkF f = 0) : wfF f ∧ nodF f ≤ 256 := by
  have h0 : (frun 1 (0, 0) f).1 = 0 := by
    unfold chkF at h
    by_cases h1 : (frun 1 (0, 0) f).1 = 0
    · exact h1
    · rw [if_neg h1] at h; exact absurd h h1
  have h1 := fruns_good (fs := [f]) (dep := 1) (s := (0, 0)) (by rw [fruns_one]; exact pair0 h0)
  rw [wfFs_cons, nodFs_cons, nodFs_nil] at h1
  have h2 : OkS (frun 1 (0, 0) f).2 := frun_okS f
  have h3 : ((frun 1 (0, 0) f).2).1 ≤ 256 := h2.2.1
  refine ⟨h1.1.1, ?_⟩
  have := h1.2
  simp at this
  omega

end Go.Proofs.YticnfeolbfmgfaaGreatDoor

namespace Go.Proofs.YticnfeolbfmgfaaGreatDoor
open Go.RowKit LX Go.Shelf
set_option linter.unusedVariables false

section
mutual
/-- How deep a term is. -/
def depT : Tm → Nat
  | .mk _ _ _ s => 1 + depTs s
def depTs : List Tm → Nat
  | [] => 0
  | t :: l => max (depT t) (depTs l)
end
end
section
mutual
/-- How deep a formula is. -/
def depF : Fm → Nat
  | .mk _ _ _ _ ts _ _ _ ss rs => 1 + max (depTs ts) (max (depRs rs) (depFs ss))
def depFs : List Fm → Nat
  | [] => 0
  | f :: l => max (depF f) (depFs l)
def depR : Rx → Nat
  | .mk _ t s => 1 + max (depFs t) (depRs s)
def depRs : List Rx → Nat
  | [] => 0
  | r :: l => max (depR r) (depRs l)
end
end
theorem depT_eq (t : Tm) : depT t = 1 + depTs t.subs := by cases t; rw [depT]; rfl
theorem depTs_nil : depTs [] = 0 := by rw [depTs]
theorem depTs_cons (t : Tm) (l : List Tm) : depTs (t :: l) = max (depT t) (depTs l) := by rw [depTs]
theorem depF_eq (f : Fm) : depF f = 1 + max (depTs f.terms) (max (depRs f.rgx) (depFs f.subs)) := by cases f; rw [depF]; rfl
theorem depFs_nil : depFs [] = 0 := by rw [depFs]
theorem depFs_cons (f : Fm) (l : List Fm) : depFs (f :: l) = max (depF f) (depFs l) := by rw [depFs]
theorem depR_eq (r : Rx) : depR r = 1 + max (depFs r.test) (depRs r.subs) := by cases r; rw [depR]; rfl
theorem depRs_nil : depRs [] = 0 := by rw [depRs]
theorem depRs_cons (r : Rx) (l : List Rx) : depRs (r :: l) = max (depR r) (depRs l) := by rw [depRs]
theorem meet_ok {dep : Int} {s : Int × Int} (h1 : dep ≤ 24) (h2 : s.1 + 1 ≤ 256) : meetE dep s = 0 ∧ meetS dep s = (s.1 + 1, max s.2 dep) := by
  have e : meetE dep s = 0 := by unfold meetE; rw [if_neg (by omega), if_neg (by omega)]
  exact ⟨e, by unfold meetS; rw [if_pos e]⟩
/-- Where all may be, and there is room, nothing is wrong. -/
theorem truns_fine : ∀ (m : Nat) (ts : List Tm) (dep : Int) (s : Int × Int), SizeOf.sizeOf ts ≤ m → wfTs ts → s.1 + nodTs ts ≤ 256 → dep - 1 + depTs ts ≤ 24 → dep - 1 ≤ s.2 → truns dep s ts = (0, (s.1 + nodTs ts, max s.2 (dep - 1 + depTs ts))) := by
  intro m
  induction m with
  | zero => intro ts dep s hm; cases ts <;> simp at hm
  | succ m ih =>
    intro ts dep s hm hw hn hd hs
    cases ts with
    | nil =>
      rw [truns_nil, nodTs_nil, depTs_nil]
      congr 1
      exact Prod.ext (by simp) (by show s.2 = max s.2 (dep - 1 + ((0 : Nat) : Int)); omega)
    | cons t l =>
      rw [wfTs_cons, wfT_eq] at hw
      rw [nodTs_cons, nodT_eq] at hn ⊢
      rw [depTs_cons, depT_eq] at hd ⊢
      have s1 : SizeOf.sizeOf l ≤ m := by simp at hm; omega
      have s2 : SizeOf.sizeOf t.subs ≤ m := by have := Tm.subs_lt t; simp at hm; omega
      obtain ⟨m1, m2⟩ := meet_ok (dep := dep) (s := s) (by omega) (by omega)
      have a := ih t.subs (dep + 1) (s.1 + 1, max s.2 dep) s2 hw.1.2 (by show s.1 + 1 + _ ≤ _; omega) (by omega) (by show dep + 1 - 1 ≤ max s.2 dep; omega)
      have e1 : trun dep s t = (0, (s.1 + 1 + nodTs t.subs, max (max s.2 dep) (dep + 1 - 1 + depTs t.subs))) := by
        rw [trun_eq, if_pos m1, if_pos hw.1.1, m2]
        exact a
      rw [truns_cons, e1, if_pos rfl]
      have b := ih l dep (s.1 + 1 + nodTs t.subs, max (max s.2 dep) (dep + 1 - 1 + depTs t.subs)) s1 hw.2 (by show s.1 + 1 + _ + _ ≤ _; omega) (by omega) (by show dep - 1 ≤ max (max s.2 dep) _; omega)
      rw [b]
      congr 1
      exact Prod.ext (by show s.1 + 1 + _ + _ = _; omega) (by show max (max (max s.2 dep) _) _ = _; omega)
theorem both_fine : ∀ m : Nat, (∀ (fs : List Fm) (dep : Int) (s : Int × Int), SizeOf.sizeOf fs ≤ m → wfFs fs → s.1 + nodFs fs ≤ 256 → dep - 1 + depFs fs ≤ 24 → dep - 1 ≤ s.2 → fruns dep s fs = (0, (s.1 + nodFs fs, max s.2 (dep - 1 + depFs fs)))) ∧ (∀ (rs : List Rx) (dep : Int) (s : Int × Int), SizeOf.sizeOf rs ≤ m → wfRs rs → s.1 + nodRs rs ≤ 256 → dep - 1 + depRs rs ≤ 24 → dep - 1 ≤ s.2 → rruns dep s rs = (0, (s.1 + nodRs rs, max s.2 (dep - 1 + depRs rs)))) := by
  intro m
  induction m with
  | zero => exact ⟨fun fs dep s hm => by cases fs <;> simp at hm, fun rs dep s hm => by cases rs <;> simp at hm⟩
  | succ m ih =>
    constructor
    · intro fs dep s hm hw hn hd hs
      cases fs with
      | nil =>
        rw [fruns_nil, nodFs_nil, depFs_nil]
        congr 1
        exact Prod.ext (by simp) (by show s.2 = max s.2 (dep - 1 + ((0 : Nat) : Int)); omega)
      | cons f l =>
        rw [wfFs_cons, wfF_eq] at hw
        rw [nodFs_cons, nodF_eq] at hn ⊢
        rw [depFs_cons, depF_eq] at hd ⊢
        obtain ⟨⟨w1, w2, w3, w4⟩, w5⟩ := hw
        have s1 : SizeOf.sizeOf l ≤ m := by simp at hm; omega
        have s2 : SizeOf.sizeOf f.subs ≤ m := by have := Fm.subs_lt f; simp at hm; omega
        have s3 : SizeOf.sizeOf f.rgx ≤ m := by have := Fm.rgx_lt f; simp at hm; omega
        obtain ⟨m1, m2⟩ := meet_ok (dep := dep) (s := s) (by omega) (by omega)
        rw [fruns_cons, frun_eq, m1, m2, andT_eq, w1, andT_eq]
        rw [truns_fine _ f.terms (dep + 1) (s.1 + 1, max s.2 dep) (Nat.le_refl _) w2 (by show s.1 + 1 + _ ≤ _; omega) (by omega) (by show dep + 1 - 1 ≤ max s.2 dep; omega), andT_eq]
        rw [ih.2 f.rgx (dep + 1) _ s3 w3 (by show s.1 + 1 + _ + _ ≤ _; omega) (by omega) (by show dep + 1 - 1 ≤ max (max s.2 dep) _; omega), andT_eq]
        rw [ih.1 f.subs (dep + 1) _ s2 w4 (by show s.1 + 1 + _ + _ + _ ≤ _; omega) (by omega) (by show dep + 1 - 1 ≤ max (max (max s.2 dep) _) _; omega), andT_eq]
        rw [ih.1 l dep _ s1 w5 (by show s.1 + 1 + _ + _ + _ + _ ≤ _; omega) (by omega) (by show dep - 1 ≤ max (max (max (max s.2 dep) _) _) _; omega)]
        congr 1
        exact Prod.ext (by show s.1 + 1 + _ + _ + _ + _ = _; omega) (by show max (max (max (max (max s.2 dep) _) _) _) _ = _; omega)
    · intro rs dep s hm hw hn hd hs
      cases rs with
      | nil =>
        rw [rruns_nil, nodRs_nil, depRs_nil]
        congr 1
        exact Prod.ext (by simp) (by show s.2 = max s.2 (dep - 1 + ((0 : Nat) : Int)); omega)
      | cons r l =>
        rw [wfRs_cons, wfR_eq] at hw
        rw [nodRs_cons, nodR_eq] at hn ⊢
        rw [depRs_cons, depR_eq] at hd ⊢
        obtain ⟨⟨w1, w2, w3⟩, w5⟩ := hw
        have s1 : SizeOf.sizeOf l ≤ m := by simp at hm; omega
        have s2 : SizeOf.sizeOf r.subs ≤ m := by have := Rx.subs_lt r; simp at hm; omega
        have s3 : SizeOf.sizeOf r.test ≤ m := by have := Rx.test_lt r; simp at hm; omega
        obtain ⟨m1, m2⟩ := meet_ok (dep := dep) (s := s) (by omega) (by omega)
        rw [rruns_cons, rrun_eq, m1, m2, andT_eq, w1, andT_eq]
        rw [ih.1 r.test (dep + 1) (s.1 + 1, max s.2 dep) s3 w2 (by show s.1 + 1 + _ ≤ _; omega) (by omega) (by show dep + 1 - 1 ≤ max s.2 dep; omega), andT_eq]
        rw [ih.2 r.subs (dep + 1) _ s2 w3 (by show s.1 + 1 + _ + _ ≤ _; omega) (by omega) (by show dep + 1 - 1 ≤ max (max s.2 dep) _; omega), andT_eq]
        rw [ih.2 l dep _ s1 w5 (by show s.1 + 1 + _ + _ + _ ≤ _; omega) (by omega) (by show dep - 1 ≤ max (max (max s.2 dep) _) _; omega)]
        congr 1
        exact Prod.ext (by show s.1 + 1 + _ + _ + _ = _; omega) (by show max (max (max (max s.2 dep) _) _) _ = _; omega)
/-- Where nothing was wrong, nothing was too deep. -/
theorem truns_deep : ∀ (m : Nat) (ts : List Tm) (dep : Int) (s q : Int × Int), SizeOf.sizeOf ts ≤ m → truns dep s ts = (0, q) → depTs ts = 0 ∨ dep - 1 + depTs ts ≤ 24 := by
  intro m
  induction m with
  | zero => intro ts dep s q hm; cases ts <;> simp at hm
  | succ m ih =>
    intro ts dep s q hm h
    cases ts with
    | nil => exact Or.inl depTs_nil
    | cons t l =>
      rw [truns_cons] at h
      rw [depTs_cons, depT_eq]
      have s1 : SizeOf.sizeOf l ≤ m := by simp at hm; omega
      have s2 : SizeOf.sizeOf t.subs ≤ m := by have := Tm.subs_lt t; simp at hm; omega
      by_cases h1 : (trun dep s t).1 = 0
      · rw [if_pos h1] at h
        rw [trun_eq] at h h1
        by_cases h2 : meetE dep s = 0
        · rw [if_pos h2] at h h1
          have hd := meetE_le h2
          by_cases h3 : tmE t = 0
          · rw [if_pos h3] at h h1
            have a := ih t.subs (dep + 1) (meetS dep s) (truns (dep + 1) (meetS dep s) t.subs).2 s2 (by rw [← h1])
            have b := ih l dep _ q s1 h
            right
            omega
          · rw [if_neg h3] at h1
            exact absurd h1 h3
        · rw [if_neg h2] at h1
          exact absurd h1 h2
      · rw [if_neg h1] at h
        rw [h] at h1
        exact absurd rfl h1
theorem both_deep : ∀ m : Nat, (∀ (fs : List Fm) (dep : Int) (s q : Int × Int), SizeOf.sizeOf fs ≤ m → fruns dep s fs = (0, q) → depFs fs = 0 ∨ dep - 1 + depFs fs ≤ 24) ∧ (∀ (rs : List Rx) (dep : Int) (s q : Int × Int), SizeOf.sizeOf rs ≤ m → rruns dep s rs = (0, q) → depRs rs = 0 ∨ dep - 1 + depRs rs ≤ 24) := by
  intro m
  induction m with
  | zero => exact ⟨fun fs dep s q hm => by cases fs <;> simp at hm, fun rs dep s q hm => by cases rs <;> simp at hm⟩
  | succ m ih =>
    constructor
    · intro fs dep s q hm h
      cases fs with
      | nil => exact Or.inl depFs_nil
      | cons f l =>
        rw [fruns_cons] at h
        rw [depFs_cons, depF_eq]
        obtain ⟨h1, h2⟩ := andT_zero h
        have s1 : SizeOf.sizeOf l ≤ m := by simp at hm; omega
        have s2 : SizeOf.sizeOf f.subs ≤ m := by have := Fm.subs_lt f; simp at hm; omega
        have s3 : SizeOf.sizeOf f.rgx ≤ m := by have := Fm.rgx_lt f; simp at hm; omega
        have b := ih.1 l dep _ q s1 h2
        have h3 := pair0 h1
        generalize (frun dep s f).2 = q2 at *
        rw [frun_eq] at h3
        obtain ⟨c1, h3⟩ := andT_zero h3
        obtain ⟨c2, h3⟩ := andT_zero h3
        obtain ⟨c3, h3⟩ := andT_zero h3
        obtain ⟨c4, h3⟩ := andT_zero h3
        have hd : dep ≤ 24 := meetE_le c1
        have d1 := truns_deep _ f.terms _ _ _ (Nat.le_refl _) (pair0 c3)
        have d2 := ih.2 f.rgx _ _ _ s3 (pair0 c4)
        have d3 := ih.1 f.subs _ _ _ s2 h3
        right
        omega
    · intro rs dep s q hm h
      cases rs with
      | nil => exact Or.inl depRs_nil
      | cons r l =>
        rw [rruns_cons] at h
        rw [depRs_cons, depR_eq]
        obtain ⟨h1, h2⟩ := andT_zero h
        have s1 : SizeOf.sizeOf l ≤ m := by simp at hm; omega
        have s2 : SizeOf.sizeOf r.subs ≤ m := by have := Rx.subs_lt r; simp at hm; omega
        have s3 : SizeOf.sizeOf r.test ≤ m := by have := Rx.test_lt r; simp at hm; omega
        have b := ih.2 l dep _ q s1 h2
        have h3 := pair0 h1
        generalize (rrun dep s r).2 = q2 at *
        rw [rrun_eq] at h3
        obtain ⟨c1, h3⟩ := andT_zero h3
        obtain ⟨c2, h3⟩ := andT_zero h3
        obtain ⟨c4, h3⟩ := andT_zero h3
        have hd : dep ≤ 24 := meetE_le c1
        have d2 := ih.1 r.test _ _ _ s3 (pair0 c4)
        have d3 := ih.2 r.subs _ _ _ s2 h3
        right
        omega
/-- When a formula may be. -/
theorem chk_iff (f : Fm) : chkF f = 0 ↔ wfF f ∧ nodF f ≤ 256 ∧ depF f ≤ 24 ∧ (fre f).2 ≤ 8 := by
  constructor
  · intro h
    have g := chk_good h
    have h0 : (frun 1 (0, 0) f).1 = 0 := by
      unfold chkF at h
      by_cases h1 : (frun 1 (0, 0) f).1 = 0
      · exact h1
      · rw [if_neg h1] at h; exact absurd h h1
    have d := (both_deep _).1 [f] 1 (0, 0) _ (Nat.le_refl _) (by rw [fruns_one]; exact pair0 h0)
    rw [depFs_cons, depFs_nil] at d
    unfold chkF at h
    rw [if_pos h0] at h
    have e : ¬ 8 < (fre f).2 := fun e => by rw [if_pos e] at h; simp at h
    exact ⟨g.1, g.2, by omega, by omega⟩
  · rintro ⟨h1, h2, h3, h4⟩
    have a := (both_fine _).1 [f] 1 (0, 0) (Nat.le_refl _) (by rw [wfFs_cons, wfFs_nil]; exact ⟨h1, trivial⟩) (by rw [nodFs_cons, nodFs_nil]; show (0 : Int) + _ ≤ _; omega) (by rw [depFs_cons, depFs_nil]; omega) (by decide)
    rw [fruns_one] at a
    unfold chkF
    rw [a, if_pos rfl, if_neg (by omega)]
end Go.Proofs.YticnfeolbfmgfaaGreatDoor

namespace Go.Proofs.YticnfeolbfmgfaaGreatDoor
open Go.RowKit LX Go.Shelf
set_option linter.unusedVariables false

theorem nameB_size {s : ByteArray} (h : nameB s = true) : s.size ≤ 16 := by
  unfold nameB nameL at h
  simp only [Bool.and_eq_true, decide_eq_true_eq] at h
  have : s.data.toList.length = s.size := by simp
  omega
theorem namesB_all : ∀ {l : List ByteArray}, namesB l = true → ∀ s ∈ l, nameB s = true
  | [], _, s, hs => by cases hs
  | x :: l, h, s, hs => by
    rw [namesB, Bool.and_eq_true] at h
    rcases List.mem_cons.1 hs with rfl | hs
    · exact h.1
    · exact namesB_all h.2 s hs
theorem nodTs_len (a : List Tm) : a.length ≤ nodTs a := by
  induction a with
  | nil => simp
  | cons x l ih => rw [nodTs_cons, nodT_eq, List.length_cons]; omega
theorem nodRs_len (a : List Rx) : a.length ≤ nodRs a := by
  induction a with
  | nil => simp
  | cons x l ih => rw [nodRs_cons, nodR_eq, List.length_cons]; omega
end Go.Proofs.YticnfeolbfmgfaaGreatDoor

namespace Go.Proofs.YticnfeolbfmgfaaGreatDoor
open Go.RowKit LX Go.Shelf
set_option linter.unusedVariables false

section
mutual
def ftT : Tm → Prop
  | .mk _ _ v subs => v.Fits ∧ ftTs subs
def ftTs : List Tm → Prop
  | [] => True
  | t :: l => ftT t ∧ ftTs l
end
end
section
mutual
def ftF : Fm → Prop
  | .mk _ _ _ _ terms _ _ _ subs rgx => ftTs terms ∧ ftRs rgx ∧ ftFs subs
def ftFs : List Fm → Prop
  | [] => True
  | f :: l => ftF f ∧ ftFs l
def ftR : Rx → Prop
  | .mk _ test subs => ftFs test ∧ ftRs subs
def ftRs : List Rx → Prop
  | [] => True
  | r :: l => ftR r ∧ ftRs l
end
end
theorem ftT_eq (t : Tm) : ftT t = (t.v.Fits ∧ ftTs t.subs) := by cases t; rw [ftT]; rfl
theorem ftTs_cons (t : Tm) (l : List Tm) : ftTs (t :: l) = (ftT t ∧ ftTs l) := by rw [ftTs]
theorem ftF_eq (f : Fm) : ftF f = (ftTs f.terms ∧ ftRs f.rgx ∧ ftFs f.subs) := by cases f; rw [ftF]; rfl
theorem ftFs_cons (f : Fm) (l : List Fm) : ftFs (f :: l) = (ftF f ∧ ftFs l) := by rw [ftFs]
theorem ftR_eq (r : Rx) : ftR r = (ftFs r.test ∧ ftRs r.subs) := by cases r; rw [ftR]; rfl
theorem ftRs_cons (r : Rx) (l : List Rx) : ftRs (r :: l) = (ftR r ∧ ftRs l) := by rw [ftRs]

theorem itvU_facts {lo hi : Int} {o : Bool} (h : itvU lo hi o = true) : 0 ≤ lo ∧ lo ≤ 1099511627776 ∧ (o = true → hi = 0) ∧ (o = false → lo ≤ hi ∧ hi ≤ 1099511627776) := by
  unfold itvU at h
  by_cases h1 : lo < 0 ∨ 1099511627776 < lo
  · rw [if_pos h1] at h; cases h
  rw [if_neg h1] at h
  cases o with
  | true => exact ⟨by omega, by omega, fun _ => (by simpa using h), fun e => (by cases e)⟩
  | false => exact ⟨by omega, by omega, fun e => (by cases e), fun _ => by simpa using h⟩
end Go.Proofs.YticnfeolbfmgfaaGreatDoor

namespace Go.Proofs.YticnfeolbfmgfaaGreatDoor
open Go.RowKit LX Go.Shelf
set_option linter.unusedVariables false

theorem data_nil {s : ByteArray} (h : (s.toList == []) = true) : s = ⟨#[]⟩ := by
  have h1 : s.toList = [] := by simpa using h
  rw [toList_data] at h1
  cases s with
  | mk d => cases d with
    | mk l => simp at h1; rw [h1]
theorem sameB_zero {v : Val} (h : sameB v.k v.n v.d v.s 0 0 0 ⟨#[]⟩ = true) : v = zeroV := by
  unfold sameB at h
  simp only [Bool.and_eq_true, beq_iff_eq] at h
  obtain ⟨h1, h2, h3, h4⟩ := h
  have h5 : v.s = ⟨#[]⟩ := data_nil (by first | simpa using h4 | (rw [h4]; rfl))
  cases v with
  | mk k n d s =>
    dsimp only at h1 h2 h3 h5
    rw [h1, h2, h3, h5]
    rfl
theorem tm_eta (t : Tm) : t = .mk t.k t.nm t.v t.subs := by cases t; rfl
/-- What a term that may be looks like. -/
theorem tm_facts {t : Tm} (h : tmE t = 0) : (t.k = 1 ∧ nameB t.nm = true ∧ t = tmV t.nm) ∨ (t.k = 2 ∧ t.v.may = 0 ∧ t = tmC t.v) ∨ ((t.k = 3 ∨ t.k = 4 ∨ t.k = 5) ∧ t.subs.length = 2 ∧ t = tmO t.k t.subs) := by
  unfold tmE at h
  by_cases h1 : t.k < 1 ∨ 5 < t.k
  · rw [if_pos h1] at h; simp at h
  rw [if_neg h1] at h
  by_cases h2 : (if t.k = 1 then nameB t.nm else t.nm.toList == []) = false ∨ t.subs.length ≠ (if 3 ≤ t.k then 2 else 0)
  · rw [if_pos h2] at h; simp at h
  rw [if_neg h2] at h
  have h3 : (if t.k = 1 then nameB t.nm else t.nm.toList == []) = true := by
    cases h4 : (if t.k = 1 then nameB t.nm else t.nm.toList == []) with
    | false => exact absurd (Or.inl h4) h2
    | true => rfl
  have h4 : t.subs.length = (if 3 ≤ t.k then 2 else 0) := Classical.byContradiction fun e => h2 (Or.inr e)
  have hz : ¬ t.k = 2 → t.v = zeroV := fun e2 => by
    rw [if_neg e2] at h
    by_cases hb : sameB t.v.k t.v.n t.v.d t.v.s 0 0 0 ⟨#[]⟩ = true
    · exact sameB_zero hb
    · rw [if_neg hb] at h; simp at h
  by_cases e1 : t.k = 1
  · rw [if_neg (by omega)] at h4
    rw [if_pos e1] at h3
    have hs : t.subs = [] := List.length_eq_zero_iff.1 h4
    have hv := hz (by omega)
    refine Or.inl ⟨e1, h3, (tm_eta t).trans ?_⟩
    rw [e1, hs, hv]
    rfl
  rw [if_neg e1] at h3
  have hn := data_nil h3
  by_cases e2 : t.k = 2
  · rw [if_pos e2] at h
    rw [if_neg (by omega)] at h4
    have hs : t.subs = [] := List.length_eq_zero_iff.1 h4
    refine Or.inr (Or.inl ⟨e2, h, (tm_eta t).trans ?_⟩)
    rw [e2, hs, hn]
    rfl
  rw [if_pos (by omega)] at h4
  have hv := hz e2
  refine Or.inr (Or.inr ⟨by omega, h4, (tm_eta t).trans ?_⟩)
  rw [hn, hv]
  rfl
theorem kinds22 {k : Int} (h1 : 3 ≤ k) (h2 : k ≤ 22) : k = 3 ∨ k = 4 ∨ k = 5 ∨ k = 6 ∨ k = 7 ∨ k = 8 ∨ k = 9 ∨ k = 10 ∨ k = 11 ∨ k = 12 ∨ k = 13 ∨ k = 14 ∨ k = 15 ∨ k = 16 ∨ k = 17 ∨ k = 18 ∨ k = 19 ∨ k = 20 ∨ k = 21 ∨ k = 22 := by omega
/-- How the forms of Check and the shapes of the text hang together. -/
theorem shp_frm {k : Int} (h1 : 3 ≤ k) (h2 : k ≤ 22) : (shp k).named = (frm k).nm ∧ (shp k).reck = (frm k).op ∧ (shp k).timed = (frm k).iv ∧ ((shp k).listed = false → (frm k).vm = 0) ∧ ((shp k).reck = true → (shp k).listed = true ∧ (frm k).vl = 1) ∧ (k ≠ 3 → (frm k).tl = (shp k).terms ∧ (frm k).tm = (shp k).terms) ∧ ((frm k).rl = (shp k).rgx ∧ (frm k).rm = (shp k).rgx) ∧ ((shp k).more = false → (frm k).sl = (shp k).subs ∧ (frm k).sm = (shp k).subs) ∧ ((shp k).more = true → (frm k).sl = 1 ∧ (shp k).subs = 1) := by
  rcases kinds22 h1 h2 with h | h | h | h | h | h | h | h | h | h | h | h | h | h | h | h | h | h | h | h <;> subst h <;> decide
theorem fm_parts {f : Fm} (h : fmE f = 0) : namesB f.vars = true ∧ (if (frm f.k).nm = true then nameB f.nm else f.nm.toList == []) = true ∧ opB f.op (frm f.k).op = true ∧ itvB f.lo f.hi f.opn (frm f.k).iv = true := by
  unfold fmE at h
  by_cases h1 : f.k < 1 ∨ 22 < f.k
  · rw [if_pos h1] at h; simp at h
  rw [if_neg h1] at h
  by_cases h2 : manyB f.k f.vars.length f.terms.length = true
  · rw [if_pos h2] at h; simp at h
  rw [if_neg h2] at h
  by_cases h3 : formedM (frm f.k) f.op f.lo f.hi f.nm f.opn f.vars f.terms.length f.subs.length f.rgx.length = false
  · rw [if_pos h3] at h; simp at h
  have h4 : formedM (frm f.k) f.op f.lo f.hi f.nm f.opn f.vars f.terms.length f.subs.length f.rgx.length = true := by
    cases h5 : formedM (frm f.k) f.op f.lo f.hi f.nm f.opn f.vars f.terms.length f.subs.length f.rgx.length with
    | false => exact absurd h5 h3
    | true => rfl
  unfold formedM at h4
  rw [Bool.and_eq_true, Bool.and_eq_true, Bool.and_eq_true, Bool.and_eq_true, Bool.and_eq_true, Bool.and_eq_true, Bool.and_eq_true] at h4
  exact ⟨h4.2.2.2.2.1, h4.2.2.2.2.2.1, h4.2.2.2.2.2.2.1, h4.2.2.2.2.2.2.2⟩
end Go.Proofs.YticnfeolbfmgfaaGreatDoor

namespace Go.Proofs.YticnfeolbfmgfaaGreatDoor
open Go.RowKit LX Go.Shelf
set_option linter.unusedVariables false

theorem jn_le (l : List (List UInt8)) : (jn l).length ≤ (spd l).length := by
  cases l with
  | nil => simp [jn]
  | cons x l => rw [jn_cons, spd]; simp only [List.length_cons, List.length_append]; omega
theorem brkt_len (l : List (List UInt8)) : (brkt l).length ≤ (spd l).length + 2 := by
  unfold brkt
  have := jn_le l
  simp
  omega
theorem spd_nil_len : (spd []).length = 0 := rfl
theorem spd_cons_len (x : List UInt8) (l : List (List UInt8)) : (spd (x :: l)).length = 1 + x.length + (spd l).length := by
  rw [spd]; simp; omega
theorem val_len {v : Val} (hm : v.may = 0) (f : v.Fits) : (vtext v.k v.n v.d v.s).length ≤ 300 := by
  obtain ⟨f1, f2, f3, f4⟩ := f
  have l1 := Lib.itoa_length_le v.n f1 f2
  have l2 := Lib.itoa_length_le v.d f3 f4
  unfold vtext
  split
  · omega
  split
  · simp; omega
  · have hs := chk_size (show chk v.k v.n v.d v.s = 0 from hm)
    have h1 := inside_len v.s.data.toList
    have e : v.s.data.toList.length = v.s.size := by simp
    have e2 : quoted v.s.data.toList = 34 :: (inside v.s.data.toList ++ [34]) := rfl
    rw [e2]
    simp only [List.length_cons, List.length_append, List.length_nil]
    omega
theorem name_len {x : ByteArray} (h : nameB x = true) : x.data.toList.length ≤ 16 := by
  have := nameB_size h
  have e : x.data.toList.length = x.size := by simp
  omega
theorem tms_len : ∀ (m : Nat) (ts : List Tm), SizeOf.sizeOf ts ≤ m → wfTs ts → ftTs ts → (spd (txTs ts)).length ≤ 1000 * nodTs ts ∧ ∀ t ∈ ts, (txT t).length + 1 ≤ 1000 * nodT t := by
  intro m
  induction m with
  | zero => intro ts hn; cases ts <;> simp at hn
  | succ m ih =>
    intro ts hn hw hf
    cases ts with
    | nil => rw [txTs, nodTs_nil]; exact ⟨by simp [spd], fun t h => by cases h⟩
    | cons t l =>
      rw [wfTs_cons, wfT_eq] at hw
      rw [ftTs_cons, ftT_eq] at hf
      have h0 := Tm.subs_lt t
      simp at hn
      have i1 := ih l (by omega) hw.2 hf.2
      have i2 := ih t.subs (by omega) hw.1.2 hf.1.2
      have ht : (txT t).length + 1 ≤ 1000 * nodT t := by
        rw [txT_eq, nodT_eq]
        rcases tm_facts hw.1.1 with ⟨h1, h2, -⟩ | ⟨h1, h2, -⟩ | ⟨h1, h2, -⟩
        · rw [if_pos h1]; have := name_len h2; omega
        · rw [if_neg (by omega), if_pos h1]; have := val_len h2 hf.1.1; omega
        · rw [if_neg (by omega), if_neg (by omega)]
          have := brkt_len (hdT t.k :: txTs t.subs)
          rw [spd_cons_len] at this
          have hk : (hdT t.k).length = 1 := by rcases h1 with h | h | h <;> rw [h] <;> rfl
          omega
      rw [txTs, nodTs_cons, spd_cons_len]
      refine ⟨by omega, fun a ha => ?_⟩
      rcases List.mem_cons.1 ha with rfl | ha
      · exact ht
      · exact i1.2 a ha
theorem spd_app_len (a b : List (List UInt8)) : (spd (a ++ b)).length = (spd a).length + (spd b).length := by rw [spd_app, List.length_append]
theorem wds_len : ∀ {l : List ByteArray}, (∀ s ∈ l, nameB s = true) → (spd (l.map fun v => v.data.toList)).length ≤ 17 * l.length
  | [], _ => by simp [spd]
  | x :: l, h => by
    have h1 := wds_len (l := l) (fun s hs => h s (by simp [hs]))
    have h2 := name_len (h x (by simp))
    rw [List.map_cons, spd_cons_len]
    simp only [List.length_cons]
    omega
theorem hdF_len {k : Int} (h1 : 4 ≤ k) (h2 : k ≤ 22) : (hdF k).length ≤ 7 := by
  rcases kinds22 (by omega) h2 with h | h | h | h | h | h | h | h | h | h | h | h | h | h | h | h | h | h | h | h <;> first | omega | (subst h; decide)
theorem hdO_len (k : Int) : (hdO k).length ≤ 3 := by
  unfold hdO
  repeat' split
  all_goals simp
theorem hdR_len (k : Int) : (hdR k).length ≤ 4 := by
  unfold hdR
  repeat' split
  all_goals simp
theorem ivT_len {lo hi : Int} {o : Bool} (h : itvU lo hi o = true) : (ivT lo hi o).length ≤ 50 := by
  obtain ⟨h0, h1, h2, h3⟩ := itvU_facts h
  have l1 := Lib.itoa_length_le lo (by omega) (by omega)
  unfold ivT
  cases o with
  | true => simp; omega
  | false =>
    have := h3 rfl
    have l2 := Lib.itoa_length_le hi (by omega) (by omega)
    simp
    omega
theorem fmH_len {f : Fm} (h : fmE f = 0) (h3 : 3 ≤ f.k) : (spd (fmH f)).length ≤ 400 := by
  obtain ⟨⟨-, h22⟩, hv, -⟩ := fm_forms h
  have hv8 := fm_vars h
  obtain ⟨p1, p2, p3, p4⟩ := fm_parts h
  obtain ⟨s1, s2, s3, s4, s5, -⟩ := shp_frm h3 h22
  have hall := namesB_all p1
  have e : fmH f = (if f.k = 3 then [] else [hdF f.k]) ++ ((if (shp f.k).named then [f.nm.data.toList] else []) ++ ((if (shp f.k).reck then [hdO f.op, (f.vars.headD ⟨#[]⟩).data.toList] else []) ++ ((if (shp f.k).listed then [brkt ((if (shp f.k).reck then f.vars.drop 1 else f.vars).map fun v => v.data.toList)] else []) ++ (if (shp f.k).timed then [ivT f.lo f.hi f.opn] else [])))) := by unfold fmH; simp only [List.append_assoc]
  rw [e, spd_app_len, spd_app_len, spd_app_len, spd_app_len]
  have a1 : (spd (if f.k = 3 then [] else [hdF f.k])).length ≤ 8 := by
    by_cases e3 : f.k = 3
    · rw [if_pos e3]; simp [spd]
    · rw [if_neg e3, spd_cons_len]; have := hdF_len (k := f.k) (by omega) h22; rw [spd_nil_len]; omega
  have a2 : (spd (if (shp f.k).named then [f.nm.data.toList] else [])).length ≤ 17 := by
    rw [s1]
    cases hb : (frm f.k).nm with
    | true => rw [hb, if_pos rfl] at p2; rw [if_pos rfl, spd_cons_len]; have := name_len p2; rw [spd_nil_len]; omega
    | false => rw [if_neg (by simp)]; simp [spd]
  have a3 : (spd (if (shp f.k).reck then [hdO f.op, (f.vars.headD ⟨#[]⟩).data.toList] else [])).length ≤ 40 := by
    cases hb : (shp f.k).reck with
    | true =>
      rw [if_pos rfl, spd_cons_len, spd_cons_len]
      have := hdO_len f.op
      have hn : (f.vars.headD ⟨#[]⟩).data.toList.length ≤ 16 := by
        cases hvv : f.vars with
        | nil => simp
        | cons x l => exact name_len (hall x (by rw [hvv]; simp))
      rw [spd_nil_len]
      omega
    | false => rw [if_neg (by simp)]; simp [spd]
  have a4 : (spd (if (shp f.k).listed then [brkt ((if (shp f.k).reck then f.vars.drop 1 else f.vars).map fun v => v.data.toList)] else [])).length ≤ 200 := by
    cases hb : (shp f.k).listed with
    | true =>
      rw [if_pos rfl, spd_cons_len]
      have hL : (spd ((if (shp f.k).reck then f.vars.drop 1 else f.vars).map fun v => v.data.toList)).length ≤ 17 * 8 := by
        cases hr : (shp f.k).reck with
        | true =>
          rw [if_pos rfl]
          have := wds_len (l := f.vars.drop 1) (fun s hs => hall s (List.mem_of_mem_drop hs))
          have : (f.vars.drop 1).length ≤ 8 := by simp; omega
          omega
        | false =>
          rw [if_neg (by simp)]
          have := wds_len (l := f.vars) hall
          omega
      have := brkt_len ((if (shp f.k).reck then f.vars.drop 1 else f.vars).map fun v => v.data.toList)
      rw [spd_nil_len]
      omega
    | false => rw [if_neg (by simp)]; simp [spd]
  have a5 : (spd (if (shp f.k).timed then [ivT f.lo f.hi f.opn] else [])).length ≤ 60 := by
    cases hb : (shp f.k).timed with
    | true =>
      rw [← s3, hb] at p4
      have hi : itvU f.lo f.hi f.opn = true := by unfold itvB at p4; rwa [if_pos rfl] at p4
      rw [if_pos rfl, spd_cons_len]
      have := ivT_len hi
      rw [spd_nil_len]
      omega
    | false => rw [if_neg (by simp)]; simp [spd]
  omega
theorem both_len : ∀ m : Nat, (∀ fs : List Fm, SizeOf.sizeOf fs ≤ m → wfFs fs → ftFs fs → (spd (txFs fs)).length ≤ 1000 * nodFs fs ∧ ∀ f ∈ fs, (txF f).length + 1 ≤ 1000 * nodF f) ∧ (∀ rs : List Rx, SizeOf.sizeOf rs ≤ m → wfRs rs → ftRs rs → (spd (txRs rs)).length ≤ 1000 * nodRs rs ∧ ∀ r ∈ rs, (txR r).length + 1 ≤ 1000 * nodR r) := by
  intro m
  induction m with
  | zero => exact ⟨fun fs hn => by cases fs <;> simp at hn, fun rs hn => by cases rs <;> simp at hn⟩
  | succ m ih =>
    constructor
    · intro fs hn hw hf
      cases fs with
      | nil => rw [txFs, nodFs_nil]; exact ⟨by simp [spd], fun t h => by cases h⟩
      | cons f l =>
        rw [wfFs_cons, wfF_eq] at hw
        rw [ftFs_cons, ftF_eq] at hf
        have h0 := Fm.subs_lt f
        have h1 := Fm.rgx_lt f
        simp at hn
        have i1 := ih.1 l (by omega) hw.2 hf.2
        have i2 := ih.1 f.subs (by omega) hw.1.2.2.2 hf.1.2.2
        have i3 := ih.2 f.rgx (by omega) hw.1.2.2.1 hf.1.2.1
        have i4 := tms_len _ f.terms (Nat.le_refl _) hw.1.2.1 hf.1.1
        have ht : (txF f).length + 1 ≤ 1000 * nodF f := by
          rw [txF_eq, nodF_eq]
          obtain ⟨⟨k1, k2⟩, -⟩ := fm_forms hw.1.1
          by_cases e1 : f.k = 1
          · rw [if_pos e1]; simp; omega
          rw [if_neg e1]
          by_cases e2 : f.k = 2
          · rw [if_pos e2]; simp; omega
          rw [if_neg e2]
          have b := brkt_len (fmH f ++ txTs f.terms ++ txRs f.rgx ++ txFs f.subs)
          rw [spd_app_len, spd_app_len, spd_app_len] at b
          have := fmH_len hw.1.1 (by omega)
          omega
        rw [txFs, nodFs_cons, spd_cons_len]
        refine ⟨by omega, fun a ha => ?_⟩
        rcases List.mem_cons.1 ha with rfl | ha
        · exact ht
        · exact i1.2 a ha
    · intro rs hn hw hf
      cases rs with
      | nil => rw [txRs, nodRs_nil]; exact ⟨by simp [spd], fun t h => by cases h⟩
      | cons r l =>
        rw [wfRs_cons, wfR_eq] at hw
        rw [ftRs_cons, ftR_eq] at hf
        have h0 := Rx.subs_lt r
        have h1 := Rx.test_lt r
        simp at hn
        have i1 := ih.2 l (by omega) hw.2 hf.2
        have i2 := ih.2 r.subs (by omega) hw.1.2.2 hf.1.2
        have i3 := ih.1 r.test (by omega) hw.1.2.1 hf.1.1
        have ht : (txR r).length + 1 ≤ 1000 * nodR r := by
          rw [txR_eq, nodR_eq]
          by_cases e1 : r.k = 1
          · rw [if_pos e1]; have := hdR_len 1; omega
          rw [if_neg e1]
          have b := brkt_len (hdR r.k :: (txFs r.test ++ txRs r.subs))
          rw [spd_cons_len, spd_app_len] at b
          have := hdR_len r.k
          omega
        rw [txRs, nodRs_cons, spd_cons_len]
        refine ⟨by omega, fun a ha => ?_⟩
        rcases List.mem_cons.1 ha with rfl | ha
        · exact ht
        · exact i1.2 a ha
end Go.Proofs.YticnfeolbfmgfaaGreatDoor

namespace Go.Proofs.YticnfeolbfmgfaaGreatDoor
open Go.RowKit LX Go.Shelf
set_option linter.unusedVariables false

end Go.Proofs.YticnfeolbfmgfaaGreatDoor

namespace Go.Proofs.YticnfeolbfmgfaaGreatDoor
open Go.RowKit LX Go.Shelf
set_option linter.unusedVariables false

theorem wfTs_mem : ∀ {l : List Tm}, wfTs l → ∀ t ∈ l, wfT t
  | [], _, t, h => by cases h
  | x :: l, hw, t, h => by
    rw [wfTs_cons] at hw
    rcases List.mem_cons.1 h with rfl | h
    · exact hw.1
    · exact wfTs_mem hw.2 t h
theorem wfFs_mem : ∀ {l : List Fm}, wfFs l → ∀ t ∈ l, wfF t
  | [], _, t, h => by cases h
  | x :: l, hw, t, h => by
    rw [wfFs_cons] at hw
    rcases List.mem_cons.1 h with rfl | h
    · exact hw.1
    · exact wfFs_mem hw.2 t h
theorem wfRs_mem : ∀ {l : List Rx}, wfRs l → ∀ t ∈ l, wfR t
  | [], _, t, h => by cases h
  | x :: l, hw, t, h => by
    rw [wfRs_cons] at hw
    rcases List.mem_cons.1 h with rfl | h
    · exact hw.1
    · exact wfRs_mem hw.2 t h
end Go.Proofs.YticnfeolbfmgfaaGreatDoor

namespace Go.Proofs.YticnfeolbfmgfaaGreatDoor
open Go.RowKit LX Go.Shelf
set_option linter.unusedVariables false

theorem cell_sameQ {w w' : World} {b : Nat} (h : w'.heap[b]? = w.heap[b]?) (o : Nat) : w'.cell? ⟨b, o, none⟩ = w.cell? ⟨b, o, none⟩ := by
  unfold World.cell?
  rw [h]
/-- The token behind all. -/
def endT (sz : Nat) : Tok Val := ⟨0, sz, [], zeroV⟩
/-- The next one. -/
def tkH (sz : Nat) : List (Tok Val) → Tok Val
  | [] => endT sz
  | t :: _ => t
def tkV (t : Tok Val) : Value := .agg #[.int .i64 t.k, .int .i64 t.at_, .string (txB t), .int .i64 t.v.k, .int .i64 t.v.n, .int .i64 t.v.d, .string t.v.s]
/-- One token's cells. -/
def TkC (w : World) (b o : Nat) (t : Tok Val) : Prop := w.cell? ⟨b, o, none⟩ = some (.int .i64 t.k) ∧ w.cell? ⟨b, o + 1, none⟩ = some (.int .i64 t.at_) ∧ w.cell? ⟨b, o + 2, none⟩ = some (.string (txB t)) ∧ w.cell? ⟨b, o + 3, none⟩ = some (.int .i64 t.v.k) ∧ w.cell? ⟨b, o + 4, none⟩ = some (.int .i64 t.v.n) ∧ w.cell? ⟨b, o + 5, none⟩ = some (.int .i64 t.v.d) ∧ w.cell? ⟨b, o + 6, none⟩ = some (.string t.v.s)
theorem TkC.fr {P : Nat → Prop} {w w' : World} {b o : Nat} {t : Tok Val} (h : TkC w b o t) (hf : Fr P w w') (hb : b < w.heap.size) (hp : ¬ P b) : TkC w' b o t := by
  have e := hf.block b hb hp
  have c : ∀ j, w'.cell? ⟨b, j, none⟩ = w.cell? ⟨b, j, none⟩ := fun j => cell_sameQ e j
  obtain ⟨h0, h1, h2, h3, h4, h5, h6⟩ := h
  exact ⟨(c _).trans h0, (c _).trans h1, (c _).trans h2, (c _).trans h3, (c _).trans h4, (c _).trans h5, (c _).trans h6⟩
/-- Tokens of a text that is not too long. -/
def TkOk (t : Tok Val) : Prop := t.v.Fits ∧ t.k ≠ 0 ∧ (t.k = 5 → ∃ l, t.x = 91 :: (l ++ [93]) ∧ ivB l = true) ∧ t.x.length ≤ 16384
/-- A reader with these tokens left. -/
def RdAt (m : Nat) (w : World) (R sz : Nat) (ts : List (Tok Val)) : Prop := ∃ b off c, w.heap[R]? = some (.cells #[.slice (some ⟨b, off, none⟩) (ts.length + 1) c] 74 (0, 0)) ∧ ts.length + 1 ≤ c ∧ b ≠ R ∧ (b < m ∧ R < m ∧ m ≤ w.heap.size) ∧ (ts.length ≤ 16384 ∧ ∀ t ∈ ts, TkOk t) ∧ (∀ i (h : i < ts.length), TkC w b (off + i * 7) ts[i]) ∧ TkC w b (off + ts.length * 7) (endT sz)
theorem RdAt.fr {P : Nat → Prop} {m : Nat} {w w' : World} {R sz : Nat} {ts : List (Tok Val)} (h : RdAt m w R sz ts) (hf : Fr P w w') (hp : ∀ k, P k → m ≤ k) : RdAt m w' R sz ts := by
  obtain ⟨b, off, c, h1, h2, h3, ⟨h4, hR, hm⟩, h5, h6, h7⟩ := h
  exact ⟨b, off, c, hf.heap h1 (fun q => by have := hp _ q; omega), h2, h3, ⟨h4, hR, Nat.le_trans hm hf.size⟩, h5, fun i hi => (h6 i hi).fr hf (by omega) (fun q => by have := hp _ q; omega), h7.fr hf (by omega) (fun q => by have := hp _ q; omega)⟩
theorem RdAt.below {m : Nat} {w w' : World} {R sz : Nat} {ts : List (Tok Val)} (h : RdAt m w R sz ts) (hb : Below w.heap.size w w') : RdAt m w' R sz ts := h.fr (P := fun _ => False) (Fr.of_below hb) (fun _ q => q.elim)
theorem RdAt.lt {m : Nat} {w : World} {R sz : Nat} {ts : List (Tok Val)} (h : RdAt m w R sz ts) : R < m ∧ m ≤ w.heap.size := by obtain ⟨b, off, c, h1, h2, h3, ⟨h4, hR, hm⟩, -⟩ := h; exact ⟨hR, hm⟩
theorem RdAt.cut {m : Nat} {w w' : World} {R sz b off c : Nat} {t : Tok Val} {ts : List (Tok Val)} (h1 : w'.heap[R]? = some (.cells #[.slice (some ⟨b, off + 7, none⟩) (ts.length + 1) c] 74 (0, 0))) (h2 : ts.length + 1 ≤ c) (h3 : b ≠ R) (h4 : b < m ∧ R < m ∧ m ≤ w.heap.size) (h5 : (t :: ts).length ≤ 16384 ∧ ∀ x ∈ t :: ts, TkOk x) (h6 : ∀ i (h : i < (t :: ts).length), TkC w b (off + i * 7) (t :: ts)[i]) (h7 : TkC w b (off + (t :: ts).length * 7) (endT sz)) (hf : Fr (fun k => k = R) w w') : RdAt m w' R sz ts := by
  have h4' : b < w.heap.size := by omega
  refine ⟨b, off + 7, c, h1, h2, h3, ⟨h4.1, h4.2.1, Nat.le_trans h4.2.2 hf.size⟩, ⟨by have := h5.1; simp at this; omega, fun x hx => h5.2 x (List.mem_cons_of_mem _ hx)⟩, fun i hi => ?_, ?_⟩
  · have h := (h6 (i + 1) (by simp; omega)).fr hf h4' h3
    have e : off + 7 + i * 7 = off + (i + 1) * 7 := by omega
    rw [e]
    exact h
  · have h := h7.fr hf h4' h3
    have e : off + 7 + ts.length * 7 = off + (t :: ts).length * 7 := by simp; omega
    rw [e]
    exact h
/-- What a call gives up with. -/
def faultE (e a : Int) : Ending := .panicked [{ v := .iface 53 (.agg #[.int .i64 e, .int .i64 a]), recovered := false }]

set_option maxRecDepth 100000 in
set_option maxHeartbeats 8000000 in
theorem next_any (m R sz : Nat) (ts : List (Tok Val)) (w : World) (h : RdAt m w R sz ts) :
    Calls Tryz.prog 32 #[.pointer (some ⟨R, 0, none⟩)] w fun e w' => e = .returned (tkV (tkH sz ts)) ∧ Fr (fun k => k = R) w w' ∧ (∀ t r, ts = t :: r → RdAt m w' R sz r) := by
  obtain ⟨b, off, c, h1, h2, h3, h4, h5, h6, h7⟩ := h
  have hR := lt_heap h1
  have h4b : b < w.heap.size := by omega
  have hc : w.cell? ⟨R, 0, none⟩ = some (.slice (some ⟨b, off, none⟩) (ts.length + 1) c) := by rw [Lib.cell_of_heap h1]; rfl
  have hz : w.frozen? ⟨R, 0, none⟩ = false := Lib.frozen_of_heap h1 _
  have hH : TkC w b off (tkH sz ts) := by
    cases ts with
    | nil => have h := h7; simp only [List.length_nil, Nat.zero_mul, Nat.add_zero] at h; exact h
    | cons t r => have h := h6 0 (by simp); simp only [Nat.zero_mul, Nat.add_zero] at h; exact h
  unfold tkV
  obtain ⟨t0, t1, t2, t3, t4, t5, t6⟩ := hH
  have HR : Hid (w.heap[R]? = some (.cells #[.slice (some ⟨b, off, none⟩) (ts.length + 1) c] 74 (0, 0))) := h1
  clear h1
  generalize (tkH sz ts).k = tk at *
  generalize (tkH sz ts).at_ = ta at *
  generalize txB (tkH sz ts) = tx at *
  generalize (tkH sz ts).v.k = vk at *
  generalize (tkH sz ts).v.n = vn at *
  generalize (tkH sz ts).v.d = vd at *
  generalize (tkH sz ts).v.s = vs at *
  go_enter Tryz.func32, Tryz.ntmps32
  go_wp2
  case inl =>
    have h0 : ts = [] := by cases ts with | nil => rfl | cons t r => simp at h2; omega
    refine bodyPost_ret (by simp [results, Tryz.results32, go_sem]; try rfl) rfl ?_
    exact ⟨rfl, (((Fr.refl (fun k => k = R) w).setCell (p := ⟨R, 0, none⟩) (Or.inl rfl) _).alloc _).alloc _, fun t r e => by rw [h0] at e; cases e⟩
  case inr =>
    refine bodyPost_ret (by simp [results, Tryz.results32, go_sem]; try rfl) rfl ?_
    have F : Fr (fun k => k = R) w (((w.setCell ⟨R, 0, none⟩ (.slice (some ⟨b, off + 7, none⟩) ts.length (c - 1))).alloc (.cells #[.int .i64 tk, .int .i64 ta, .string tx, .int .i64 vk, .int .i64 vn, .int .i64 vd, .string vs] 58)).alloc (.cells #[.int .i64 tk, .int .i64 ta, .string tx, .int .i64 vk, .int .i64 vn, .int .i64 vd, .string vs] 58)) := (((Fr.refl (fun k => k = R) w).setCell (p := ⟨R, 0, none⟩) (Or.inl rfl) _).alloc _).alloc _
    refine ⟨rfl, F, fun t r e => ?_⟩
    subst e
    refine RdAt.cut (t := t) (c := c - 1) ?_ (by simp at h2; omega) h3 h4 h5 h6 h7 F
    have hs := set_heap (j := 0) HR.out (.slice (some ⟨b, off + 7, none⟩) (t :: r).length (c - 1))
    have h8 : R < (w.setCell ⟨R, 0, none⟩ (.slice (some ⟨b, off + 7, none⟩) (t :: r).length (c - 1))).heap.size := lt_heap hs
    exact (Below.heap_alloc _ _ _ (by simp; omega)).trans ((Below.heap_alloc _ _ _ h8).trans hs)

/-- What reading comes to, at a reader: V tells of what was read. -/
def RdO {α : Type} (m R sz : Nat) (w : World) (V : α → Value → World → Prop) : Rd α → Ending → World → Prop
  | .bad er a, e, w' => e = faultE er a ∧ Fr (fun k => k = R) w w'
  | .ok x r, e, w' => ∃ v, e = .returned v ∧ V x v w' ∧ RdAt m w' R sz r ∧ Fr (fun k => k = R) w w'
theorem beq_data (a : ByteArray) (y : List UInt8) : (a.toList == y) = decide (a.data.toList = y) := by
  rw [toList_data]
  by_cases h : a.data.toList = y
  · simp [h]
  · simp [h]
set_option maxRecDepth 100000 in
set_option maxHeartbeats 8000000 in
theorem closes_any (m R sz : Nat) (ts : List (Tok Val)) (w : World) (h : RdAt m w R sz ts) :
    Calls Tryz.prog 152 #[.pointer (some ⟨R, 0, none⟩)] w fun e w' => e = .returned (.bool (clos ts)) ∧ w' = w := by
  obtain ⟨b, off, c, h1, h2, h3, h4, h5, h6, h7⟩ := h
  have hR := lt_heap h1
  have h4b : b < w.heap.size := by omega
  have hc : w.cell? ⟨R, 0, none⟩ = some (.slice (some ⟨b, off, none⟩) (ts.length + 1) c) := by rw [Lib.cell_of_heap h1]; rfl
  have hH : TkC w b off (tkH sz ts) := by
    cases ts with
    | nil => have h := h7; simp only [List.length_nil, Nat.zero_mul, Nat.add_zero] at h; exact h
    | cons t r => have h := h6 0 (by simp); simp only [Nat.zero_mul, Nat.add_zero] at h; exact h
  obtain ⟨-, -, t2, -, -, -, -⟩ := hH
  have HC : Hid (clos ts = ((txB (tkH sz ts)).toList == [41])) := by
    rw [beq_data]
    cases ts with
    | nil => rfl
    | cons t r => rfl
  rw [HC.out]
  clear HC h1 h6 h7
  generalize txB (tkH sz ts) = tx at *
  go_enter Tryz.func152, Tryz.ntmps152
  go_wp2
  go_ret
  exact ⟨rfl, rfl⟩
theorem misplaced_at (k a : Int) (x : ByteArray) (vk vn vd : Int) (vs : ByteArray) (w : World) :
    Calls Tryz.prog 33 #[.agg #[.int .i64 k, .int .i64 a, .string x, .int .i64 vk, .int .i64 vn, .int .i64 vd, .string vs]] w fun e w' => e = .returned (.agg #[.int .i64 70, .int .i64 a]) ∧ Below w.heap.size w w' := by
  go_enter Tryz.func33, Tryz.ntmps33
  go_wp2
  refine bodyPost_ret (by simp [results, Tryz.results33, go_sem]; try rfl) rfl ?_
  exact ⟨rfl, by go_grown⟩
/-- next, told of one token's fields. -/
def NxO (m R sz : Nat) (ts : List (Tok Val)) (w : World) (t : Value) (e : Ending) (w' : World) : Prop := e = .returned t ∧ Fr (fun k => k = R) w w' ∧ (∀ t r, ts = t :: r → RdAt m w' R sz r)
theorem next_at (m R sz : Nat) (ts : List (Tok Val)) (w : World) (h : RdAt m w R sz ts) : Calls Tryz.prog 32 #[.pointer (some ⟨R, 0, none⟩)] w (NxO m R sz ts w (.agg #[.int .i64 (tkH sz ts).k, .int .i64 (tkH sz ts).at_, .string (txB (tkH sz ts)), .int .i64 (tkH sz ts).v.k, .int .i64 (tkH sz ts).v.n, .int .i64 (tkH sz ts).v.d, .string (tkH sz ts).v.s])) := next_any m R sz ts w h
set_option maxRecDepth 100000 in
set_option maxHeartbeats 8000000 in
theorem expect_any (m R sz : Nat) (ts : List (Tok Val)) (x : ByteArray) (hx : x.data.toList ≠ []) (w : World) (h : RdAt m w R sz ts) :
    Calls Tryz.prog 76 #[.pointer (some ⟨R, 0, none⟩), .string x] w (RdO m R sz w (fun _ _ _ => True) (rExp sz x.data.toList ts)) := by
  have CN : Hid (Calls Tryz.prog 32 #[.pointer (some ⟨R, 0, none⟩)] w (NxO m R sz ts w (.agg #[.int .i64 (tkH sz ts).k, .int .i64 (tkH sz ts).at_, .string (txB (tkH sz ts)), .int .i64 (tkH sz ts).v.k, .int .i64 (tkH sz ts).v.n, .int .i64 (tkH sz ts).v.d, .string (tkH sz ts).v.s]))) := next_at m R sz ts w h
  have HB : ((txB (tkH sz ts)).toList == x.toList) = decide ((tkH sz ts).x = x.data.toList) := by rw [beq_data, toList_data x]; rfl
  have HR : Hid (∃ u, rExp sz x.data.toList ts = if decide ((tkH sz ts).x = x.data.toList) then .ok () u else .bad 70 (tkH sz ts).at_) := by
    cases ts with
    | nil =>
      have hn : ¬ (tkH sz []).x = x.data.toList := fun e => hx e.symm
      exact ⟨[], by rw [if_neg (by rw [decide_eq_true_eq]; exact hn)]; rfl⟩
    | cons t r => exact ⟨r, by rw [rExp]; by_cases hc : t.x = x.data.toList <;> simp [hc, tkH]⟩
  have HT : Hid (decide ((tkH sz ts).x = x.data.toList) = true → ∀ u, rExp sz x.data.toList ts = .ok () u → ∃ t, ts = t :: u) := by
    intro hd u hu
    cases ts with
    | nil => cases hu
    | cons t r =>
      rw [rExp, if_pos (show t.x = x.data.toList from of_decide_eq_true hd)] at hu
      injection hu with _ hu
      exact ⟨t, by rw [hu]⟩
  obtain ⟨tb, htb⟩ : ∃ b : Bool, Hid (decide ((tkH sz ts).x = x.data.toList) = b) := ⟨_, rfl⟩
  rw [htb.out] at HB HR HT
  clear htb
  generalize rExp sz x.data.toList ts = RS at *
  obtain ⟨u, hu⟩ := HR.out
  clear HR
  generalize (tkH sz ts).k = tk at *
  generalize (tkH sz ts).at_ = ta at *
  generalize txB (tkH sz ts) = tx at *
  generalize (tkH sz ts).v.k = vk at *
  generalize (tkH sz ts).v.n = vn at *
  generalize (tkH sz ts).v.d = vd at *
  generalize (tkH sz ts).v.s = vs at *
  cases tb with
  | true =>
    rw [if_pos rfl] at hu
    have hT : ∃ t, ts = t :: u := HT.out rfl u hu
    subst hu
    clear HT
    go_enter Tryz.func76, Tryz.ntmps76
    go_wp2_with fail
    refine CN.out.mono ?_
    rintro e w1 ⟨rfl, hF, hN⟩
    obtain ⟨t, ht⟩ := hT
    have A1 : Hid (RdAt m w1 R sz u) := hN t u ht
    have F1 : Hid (Fr (fun k => k = R) w w1) := hF
    clear hF hN CN ht
    go_wp2
    go_end0
    exact ⟨_, rfl, trivial, A1.out.below (by go_grown), F1.out.alloc _⟩
  | false =>
    rw [if_neg (by simp)] at hu
    subst hu
    clear HT
    go_enter Tryz.func76, Tryz.ntmps76
    go_wp2_with fail
    refine CN.out.mono ?_
    rintro e w1 ⟨rfl, hF, hN⟩
    have F1 : Hid (Fr (fun k => k = R) w w1) := hF
    clear hF hN CN
    go_wp2_with fail
    refine (misplaced_at _ _ _ _ _ _ _ _).mono ?_
    rintro e w2 ⟨rfl, hb2⟩
    have F2 : Fr (fun k => k = R) w w2 := (F1.out.alloc _).trans (Fr.of_below (P := fun _ => False) hb2) (fun _ q => q.elim)
    clear hb2 F1
    go_wp2
    exact ⟨rfl, rfl, F2⟩
end Go.Proofs.YticnfeolbfmgfaaGreatDoor

namespace Go.Proofs.YticnfeolbfmgfaaGreatDoor
open Go.RowKit Go.Shelf LX
set_option linter.unusedVariables false

theorem sclone_any (s : ByteArray) (w : World) (hs : s.size ≤ 281474976710656) :
    Calls Tryz.prog 72 #[.string s] w fun e w' => e = .returned (.string s) ∧ Below w.heap.size w w' := by
  go_enter Tryz.func72, Tryz.ntmps72
  go_wp2_with fail
  refine (Tryz.stringslite_Clone s _ hs).mono ?_
  rintro e w1 ⟨rfl, hb⟩
  go_wp2
  go_ret
  exact ⟨rfl, hb⟩
/-- A block that holds a token. -/
structure BlkT (W : World) (B : Nat) (K at_ : Int) (x : ByteArray) (k n d : Int) (s : ByteArray) : Prop where
  c0 : W.cell? ⟨B, 0, none⟩ = some (.int .i64 K)
  c1 : W.cell? ⟨B, 1, none⟩ = some (.int .i64 at_)
  c2 : W.cell? ⟨B, 2, none⟩ = some (.string x)
  c3 : W.cell? ⟨B, 3, none⟩ = some (.int .i64 k)
  c4 : W.cell? ⟨B, 4, none⟩ = some (.int .i64 n)
  c5 : W.cell? ⟨B, 5, none⟩ = some (.int .i64 d)
  c6 : W.cell? ⟨B, 6, none⟩ = some (.string s)
  f0 : W.frozen? ⟨B, 0, none⟩ = false
  f1 : W.frozen? ⟨B, 1, none⟩ = false
  f2 : W.frozen? ⟨B, 2, none⟩ = false
  f3 : W.frozen? ⟨B, 3, none⟩ = false
  f4 : W.frozen? ⟨B, 4, none⟩ = false
  f5 : W.frozen? ⟨B, 5, none⟩ = false
  f6 : W.frozen? ⟨B, 6, none⟩ = false
theorem BlkT.below {W W' : World} {B m : Nat} {K at_ k n d : Int} {x s : ByteArray} (h : BlkT W B K at_ x k n d s) (hb : Below m W W') (hB : B < m) : BlkT W' B K at_ x k n d s :=
  ⟨(hb.cell (p := ⟨B, 0, none⟩) hB).trans h.c0, (hb.cell (p := ⟨B, 1, none⟩) hB).trans h.c1, (hb.cell (p := ⟨B, 2, none⟩) hB).trans h.c2, (hb.cell (p := ⟨B, 3, none⟩) hB).trans h.c3, (hb.cell (p := ⟨B, 4, none⟩) hB).trans h.c4, (hb.cell (p := ⟨B, 5, none⟩) hB).trans h.c5, (hb.cell (p := ⟨B, 6, none⟩) hB).trans h.c6,
   (hb.frozen (p := ⟨B, 0, none⟩) hB).trans h.f0, (hb.frozen (p := ⟨B, 1, none⟩) hB).trans h.f1, (hb.frozen (p := ⟨B, 2, none⟩) hB).trans h.f2, (hb.frozen (p := ⟨B, 3, none⟩) hB).trans h.f3, (hb.frozen (p := ⟨B, 4, none⟩) hB).trans h.f4, (hb.frozen (p := ⟨B, 5, none⟩) hB).trans h.f5, (hb.frozen (p := ⟨B, 6, none⟩) hB).trans h.f6⟩
theorem BlkT.seven {W : World} {B : Nat} {K at_ k n d K' at' k' n' d' : Int} {x s x' s' : ByteArray} (h : BlkT W B K at_ x k n d s) : BlkT (((((((W.setCell ⟨B, 0, none⟩ (.int .i64 K')).setCell ⟨B, 1, none⟩ (.int .i64 at')).setCell ⟨B, 2, none⟩ (.string x')).setCell ⟨B, 3, none⟩ (.int .i64 k')).setCell ⟨B, 4, none⟩ (.int .i64 n')).setCell ⟨B, 5, none⟩ (.int .i64 d')).setCell ⟨B, 6, none⟩ (.string s')) B K' at' x' k' n' d' s' := by
  obtain ⟨c0, c1, c2, c3, c4, c5, c6, f0, f1, f2, f3, f4, f5, f6⟩ := h
  constructor <;> simp (maxDischargeDepth := 16) [go_sem, c0, c1, c2, c3, c4, c5, c6, f0, f1, f2, f3, f4, f5, f6]
theorem below7 {B0 B : Nat} {w W : World} (h : Below B0 w W) (hB : B0 ≤ B) (v0 v1 v2 v3 v4 v5 v6 : Value) : Below B0 w (((((((W.setCell ⟨B, 0, none⟩ v0).setCell ⟨B, 1, none⟩ v1).setCell ⟨B, 2, none⟩ v2).setCell ⟨B, 3, none⟩ v3).setCell ⟨B, 4, none⟩ v4).setCell ⟨B, 5, none⟩ v5).setCell ⟨B, 6, none⟩ v6) :=
  ((((((h.setCell hB _).setCell hB _).setCell hB _).setCell hB _).setCell hB _).setCell hB _).setCell hB _
set_option maxRecDepth 100000 in
set_option maxHeartbeats 4000000 in
theorem token_no (s : ByteArray) (i : Nat) (E : Int) (w : World)
    (BH : Hid (∀ W : World, Calls Tryz.prog 71 #[.string s, .int .i64 i] W fun e w' => e = .returned (.tuple #[.int .i64 0, .int .i64 E]) ∧ w' = W)) :
    Calls Tryz.prog 30 #[.string s, .int .i64 i] w fun e w' => e = .returned (.tuple #[.agg #[.int .i64 0, .int .i64 0, .string ⟨#[]⟩, .int .i64 0, .int .i64 0, .int .i64 0, .string ⟨#[]⟩], .bool false]) ∧ Below w.heap.size w w' := by
  go_enter Tryz.func30, Tryz.ntmps30
  go_wp2_with fail
  refine (BH.out _).mono ?_
  rintro e w1 ⟨rfl, rfl⟩
  go_wp2
  refine bodyPost_ret (by simp [results, Tryz.results30, go_sem]; try rfl) rfl ?_
  exact ⟨rfl, (Below.refl _ w).alloc (Nat.le_refl _) _⟩
set_option maxRecDepth 100000 in
set_option maxHeartbeats 4000000 in
theorem token_yes (s x S : ByteArray) (i m : Nat) (K k n d : Int) (ok : Bool) (w : World) (hK : ¬ K = 0) (him : i ≤ m) (hm : m ≤ s.size) (hs : s.size ≤ 16384) (hx : s.extract i m = x)
    (BH : Hid (∀ W : World, Calls Tryz.prog 71 #[.string s, .int .i64 i] W fun e w' => e = .returned (.tuple #[.int .i64 K, .int .i64 m]) ∧ w' = W))
    (CL : Hid (∀ W : World, Calls Tryz.prog 72 #[.string x] W fun e w' => e = .returned (.string x) ∧ Below W.heap.size W w'))
    (SA : Hid (∀ W : World, Pow W → Errs W → 6 ≤ W.heap.size → Calls Tryz.prog 73 #[.int .i64 K, .string x] W fun e w' => e = .returned (.tuple #[.agg #[.int .i64 k, .int .i64 n, .int .i64 d, .string S], .bool ok]) ∧ Below W.heap.size W w'))
    (ht : Pow w) (he : Errs w) (h8 : 6 ≤ w.heap.size) :
    Calls Tryz.prog 30 #[.string s, .int .i64 i] w fun e w' => e = .returned (.tuple #[.agg #[.int .i64 K, .int .i64 i, .string x, .int .i64 k, .int .i64 n, .int .i64 d, .string S], .bool ok]) ∧ Below w.heap.size w w' := by
  have HE : Hid (Errs w) := he
  have HP : Hid (Pow w) := ht
  clear he ht
  have him' : (i : Int) ≤ m := by omega
  have hm' : (m : Int) ≤ s.size := by omega
  go_enter Tryz.func30, Tryz.ntmps30
  go_wp2_with fail
  refine (BH.out _).mono ?_
  rintro e w1 ⟨rfl, rfl⟩
  go_wp2_with fail
  refine (CL.out _).mono ?_
  rintro e w1 ⟨rfl, hb1⟩
  have R1 : Hid (BlkT w1 w.heap.size 0 0 ⟨#[]⟩ 0 0 0 ⟨#[]⟩) := BlkT.below (by constructor <;> simp (maxDischargeDepth := 16) [go_sem]) hb1 (by simp)
  have B1 : Below w.heap.size w w1 := ((Below.refl _ w).alloc (Nat.le_refl _) _).trans (hb1.mono (by simp))
  have z1 : w.heap.size < w1.heap.size := by have := hb1.size; simp at this; omega
  clear hb1
  go_wp2_with fail
  refine (SA.out _ (HP.out.below B1) (HE.out.below B1 h8) (by omega)).mono ?_
  rintro e w2 ⟨rfl, hb2⟩
  have R2 : Hid (BlkT w2 w.heap.size 0 0 ⟨#[]⟩ 0 0 0 ⟨#[]⟩) := R1.out.below hb2 z1
  have B2 : Below w.heap.size w w2 := B1.trans (hb2.mono B1.size)
  have z2 : w.heap.size < w2.heap.size := by have := hb2.size; omega
  clear R1 B1 hb2
  go_upto_region 6 with fail
  refine wp_world ?_
  intro W3 hW3
  have R3 : Hid (BlkT W3 w.heap.size 0 0 ⟨#[]⟩ 0 0 0 ⟨#[]⟩) := by rw [hW3]; exact R2.out.below ((Below.refl w2.heap.size w2).alloc (Nat.le_refl _) _) z2
  have V3 : Hid (BlkV W3 w2.heap.size k n d S) := by rw [hW3]; constructor <;> simp (maxDischargeDepth := 12) [go_sem]
  have B3 : Below w.heap.size w W3 := by rw [hW3]; exact B2.alloc B2.size _
  clear hW3 R2 B2
  obtain ⟨r0, r1, r2, r3, r4, r5, r6, q0, q1, q2, q3, q4, q5, q6⟩ := R3.out
  obtain ⟨v0, v1, v2, v3, -, -, -, -⟩ := V3.out
  go_wp2
  generalize hW9 : World.setCell _ _ _ = W9
  have b9 : BlkT W9 w.heap.size K i x k n d S := by rw [← hW9]; exact R3.out.seven
  have hB9 : Below w.heap.size w W9 := by rw [← hW9]; exact below7 B3 (Nat.le_refl _) _ _ _ _ _ _ _
  clear hW9
  obtain ⟨x0, x1, x2, x3, x4, x5, x6, -, -, -, -, -, -, -⟩ := b9
  refine bodyPost_ret (by simp [results, Tryz.results30, go_sem, x0, x1, x2, x3, x4, x5, x6]; try rfl) rfl ?_
  exact ⟨rfl, hB9⟩
theorem beh_5 (l : List UInt8) (h : (beh l).1 = 5) : 2 ≤ (beh l).2 := by
  cases l with
  | nil => simp [beh] at h
  | cons c t =>
    revert h
    rw [beh_cons]
    split
    · simp
    split
    · simp
    split
    · simp
    split
    · simp
    split
    · simp
    split
    · simp
    split
    · cases hb : brk t with
      | none => simp
      | some k => intro _; have := brk_le t k hb; simp; omega
    split
    · cases hb : qend false t with
      | none => simp
      | some k => simp
    split
    · simp
    · simp
/-- token at every place of a text: the value, and whether there is a token. -/
theorem token_any (s : ByteArray) (i : Nat) (w : World) (hs : s.size ≤ 16384) (hi : i < s.size) (ht : Pow w) (he : Errs w) (h8 : 6 ≤ w.heap.size) :
    Calls Tryz.prog 30 #[.string s, .int .i64 i] w fun e w' => ∃ (K at_ k n d : Int) (x S : ByteArray) (ok : Bool), e = .returned (.tuple #[.agg #[.int .i64 K, .int .i64 at_, .string x, .int .i64 k, .int .i64 n, .int .i64 d, .string S], .bool ok]) ∧ Below w.heap.size w w' ∧
      Hid ((ok = true ↔ fine sdB (s.data.toList.drop i)) ∧ (ok = true → tokAt sdB (s.data.toList.drop i) i = ⟨K.toNat, at_.toNat, x.data.toList, ⟨k, n, d, S⟩⟩ ∧ K = K.toNat ∧ at_ = i ∧ 1 ≤ x.size ∧ i + x.size ≤ s.size)) := by
  have BH := fun (W : World) => behind_any s i W hs hi
  have hl : s.data.toList.length = s.size := by simp
  obtain ⟨b, hb⟩ : ∃ b, beh (s.data.toList.drop i) = b := ⟨_, rfl⟩
  obtain ⟨K, n⟩ := b
  rw [hb] at BH
  by_cases hK : K = 0
  · subst hK
    refine (token_no s i _ w BH).mono ?_
    rintro e w' ⟨rfl, hB⟩
    refine ⟨_, _, _, _, _, _, _, _, rfl, hB, ?_, ?_⟩
    · constructor
      · intro h; cases h
      · intro h; exact absurd (by rw [hb]) h.1
    · intro h; cases h
  · have hle := beh_le (s.data.toList.drop i) (by rw [hb]; exact hK)
    rw [hb] at hle
    simp only [List.length_drop, hl] at hle
    dsimp only at BH
    rw [if_neg hK] at BH
    have hx : s.extract i (i + n) = ⟨((s.data.toList.drop i).take n).toArray⟩ := ba_eq (by rw [ext_mid, Nat.add_sub_cancel_left])
    have hxl : (⟨((s.data.toList.drop i).take n).toArray⟩ : ByteArray).size = n := by
      show ((s.data.toList.drop i).take n).toArray.size = n
      simp
      omega
    have two : K = 5 → 2 ≤ n := by
      intro h5
      have := beh_5 (s.data.toList.drop i) (by rw [hb]; exact h5)
      rw [hb] at this
      exact this
    refine (token_yes s _ (sdB K ((s.data.toList.drop i).take n)).1.s i (i + n) K (sdB K ((s.data.toList.drop i).take n)).1.k (sdB K ((s.data.toList.drop i).take n)).1.n (sdB K ((s.data.toList.drop i).take n)).1.d (sdB K ((s.data.toList.drop i).take n)).2 w (by omega) (by omega) (by omega) hs hx BH (fun W => sclone_any _ W (by rw [hxl]; omega)) (fun W q1 q2 q3 => by
      have q := said_any K ⟨((s.data.toList.drop i).take n).toArray⟩ W (by rw [hxl]; omega) q1 q2 q3 (by rw [hxl]; exact two) (by rw [hxl]; intro _; omega)
      exact q) ht he h8).mono ?_
    rintro e w' ⟨rfl, hB⟩
    refine ⟨_, _, _, _, _, _, _, _, rfl, hB, ?_, ?_⟩
    · unfold fine
      rw [hb]
      exact ⟨fun h => ⟨hK, h⟩, fun h => h.2⟩
    · intro _
      refine ⟨?_, rfl, rfl, by rw [hxl]; omega, by rw [hxl]; omega⟩
      unfold tokAt
      rw [hb]
      rfl
end Go.Proofs.YticnfeolbfmgfaaGreatDoor

namespace Go.Proofs.YticnfeolbfmgfaaGreatDoor
open Go.RowKit LX Go.Shelf
set_option linter.unusedVariables false

theorem BlkT.fr {P : Nat → Prop} {W W' : World} {B : Nat} {K at_ k n d : Int} {x s : ByteArray} (h : BlkT W B K at_ x k n d s) (hf : Fr P W W') (hB : B < W.heap.size) (hp : ¬ P B) : BlkT W' B K at_ x k n d s := by
  have e := hf.block B hB hp
  have c : ∀ j, W'.cell? ⟨B, j, none⟩ = W.cell? ⟨B, j, none⟩ := fun j => cell_sameQ e j
  have f : ∀ j, W'.frozen? ⟨B, j, none⟩ = W.frozen? ⟨B, j, none⟩ := fun j => by unfold World.frozen?; rw [e]
  obtain ⟨c0, c1, c2, c3, c4, c5, c6, f0, f1, f2, f3, f4, f5, f6⟩ := h
  exact ⟨(c _).trans c0, (c _).trans c1, (c _).trans c2, (c _).trans c3, (c _).trans c4, (c _).trans c5, (c _).trans c6, (f _).trans f0, (f _).trans f1, (f _).trans f2, (f _).trans f3, (f _).trans f4, (f _).trans f5, (f _).trans f6⟩
theorem fr7 {P : Nat → Prop} {B : Nat} {w W : World} (h : Fr P w W) (hB : P B ∨ w.heap.size ≤ B) (v0 v1 v2 v3 v4 v5 v6 : Value) : Fr P w (((((((W.setCell ⟨B, 0, none⟩ v0).setCell ⟨B, 1, none⟩ v1).setCell ⟨B, 2, none⟩ v2).setCell ⟨B, 3, none⟩ v3).setCell ⟨B, 4, none⟩ v4).setCell ⟨B, 5, none⟩ v5).setCell ⟨B, 6, none⟩ v6) :=
  ((((((h.setCell (p := ⟨B, 0, none⟩) hB _).setCell (p := ⟨B, 1, none⟩) hB _).setCell (p := ⟨B, 2, none⟩) hB _).setCell (p := ⟨B, 3, none⟩) hB _).setCell (p := ⟨B, 4, none⟩) hB _).setCell (p := ⟨B, 5, none⟩) hB _).setCell (p := ⟨B, 6, none⟩) hB _
set_option maxRecDepth 100000 in
set_option maxHeartbeats 8000000 in
/-- begin: too deep. -/
theorem begin_deep (m R sz : Nat) (ts : List (Tok Val)) (d : Int) (w : World) (h : RdAt m w R sz ts) (hd : 24 < d) (hk : (tkH sz ts).k ≠ 0) :
    Calls Tryz.prog 74 #[.pointer (some ⟨R, 0, none⟩), .int .i64 d] w fun e w' => e = faultE 71 (tkH sz ts).at_ ∧ Fr (fun k => k = R) w w' := by
  have CN : Hid (∀ W : World, Below w.heap.size w W → Calls Tryz.prog 32 #[.pointer (some ⟨R, 0, none⟩)] W (NxO m R sz ts W (.agg #[.int .i64 (tkH sz ts).k, .int .i64 (tkH sz ts).at_, .string (txB (tkH sz ts)), .int .i64 (tkH sz ts).v.k, .int .i64 (tkH sz ts).v.n, .int .i64 (tkH sz ts).v.d, .string (tkH sz ts).v.s]))) := fun W hW => next_at m R sz ts W (h.below hW)
  generalize (tkH sz ts).k = tk at *
  generalize (tkH sz ts).at_ = ta at *
  generalize txB (tkH sz ts) = tx at *
  generalize (tkH sz ts).v.k = vk at *
  generalize (tkH sz ts).v.n = vn at *
  generalize (tkH sz ts).v.d = vd at *
  generalize (tkH sz ts).v.s = vs at *
  have hk' : ¬ (tk : Int) = 0 := by omega
  go_enter Tryz.func74, Tryz.ntmps74
  go_wp2_with fail
  refine (CN.out _ (by go_grown)).mono ?_
  rintro e w1 ⟨rfl, hF, hN⟩
  have F1 : Hid (Fr (fun k => k = R) w w1) := ((Fr.refl (fun k => k = R) w).alloc _).trans hF (fun k e => Or.inl e)
  clear hF hN CN
  go_wp2
  exact ⟨rfl, rfl, F1.out.alloc _⟩
set_option maxRecDepth 100000 in
set_option maxHeartbeats 8000000 in
theorem begin_any (m R sz : Nat) (ts : List (Tok Val)) (d : Int) (w : World) (h : RdAt m w R sz ts) (hd : ¬ (24 < d ∧ (tkH sz ts).k ≠ 0)) :
    Calls Tryz.prog 74 #[.pointer (some ⟨R, 0, none⟩), .int .i64 d] w (NxO m R sz ts w (.agg #[.int .i64 (tkH sz ts).k, .int .i64 (tkH sz ts).at_, .string (txB (tkH sz ts)), .int .i64 (tkH sz ts).v.k, .int .i64 (tkH sz ts).v.n, .int .i64 (tkH sz ts).v.d, .string (tkH sz ts).v.s])) := by
  have CN : Hid (∀ W : World, Below w.heap.size w W → Calls Tryz.prog 32 #[.pointer (some ⟨R, 0, none⟩)] W (NxO m R sz ts W (.agg #[.int .i64 (tkH sz ts).k, .int .i64 (tkH sz ts).at_, .string (txB (tkH sz ts)), .int .i64 (tkH sz ts).v.k, .int .i64 (tkH sz ts).v.n, .int .i64 (tkH sz ts).v.d, .string (tkH sz ts).v.s]))) := fun W hW => next_at m R sz ts W (h.below hW)
  have hlt := h.lt
  generalize (tkH sz ts).k = tk at *
  generalize (tkH sz ts).at_ = ta at *
  generalize txB (tkH sz ts) = tx at *
  generalize (tkH sz ts).v.k = vk at *
  generalize (tkH sz ts).v.n = vn at *
  generalize (tkH sz ts).v.d = vd at *
  generalize (tkH sz ts).v.s = vs at *
  by_cases h24 : 24 < d
  case pos =>
    obtain rfl : tk = 0 := by omega
    go_enter Tryz.func74, Tryz.ntmps74
    go_wp2_with fail
    refine (CN.out _ (by go_grown)).mono ?_
    rintro e w1 ⟨rfl, hF, hN⟩
    have F1 : Hid (Fr (fun k => k = R) w w1) := ((Fr.refl (fun k => k = R) w).alloc _).trans hF (fun k e => Or.inl e)
    have z1 : w.heap.size < w1.heap.size := by have := hF.size; simp at this; omega
    have R1 : Hid (BlkT w1 w.heap.size 0 0 ⟨#[]⟩ 0 0 0 ⟨#[]⟩) := BlkT.fr (W := w.alloc (.cells #[.int .i64 0, .int .i64 0, .string ⟨#[]⟩, .int .i64 0, .int .i64 0, .int .i64 0, .string ⟨#[]⟩] 58)) (by constructor <;> simp (maxDischargeDepth := 16) [go_sem]) hF (by simp) (fun e => by omega)
    have N1 : Hid (∀ t r, ts = t :: r → RdAt m w1 R sz r) := hN
    clear hF hN CN
    go_upto_region 2 with fail
    refine wp_world ?_
    intro W2 hW2
    have R2 : Hid (BlkT W2 w.heap.size 0 0 ⟨#[]⟩ 0 0 0 ⟨#[]⟩) := by rw [hW2]; exact R1.out.below ((Below.refl w1.heap.size w1).alloc (Nat.le_refl _) _) z1
    have V2 : Hid (BlkT W2 w1.heap.size ((0 : Nat) : Int) ta tx vk vn vd vs) := by rw [hW2]; constructor <;> simp (maxDischargeDepth := 16) [go_sem]
    have F2 : Hid (Fr (fun k => k = R) w W2) := by rw [hW2]; exact F1.out.alloc _
    have A2 : Hid (∀ t r, ts = t :: r → RdAt m W2 R sz r) := fun t r e => by rw [hW2]; exact (N1.out t r e).below ((Below.refl w1.heap.size w1).alloc (Nat.le_refl _) _)
    clear hW2 R1 F1 N1
    obtain ⟨r0, r1, r2, r3, r4, r5, r6, q0, q1, q2, q3, q4, q5, q6⟩ := R2.out
    obtain ⟨v0, v1, v2, v3, v4, v5, v6, -, -, -, -, -, -, -⟩ := V2.out
    generalize w1.heap.size = n1 at *
    go_wp2
    generalize hW9 : World.setCell _ _ _ = W9
    have b9 : BlkT W9 w.heap.size ((0 : Nat) : Int) ta tx vk vn vd vs := by rw [← hW9]; exact R2.out.seven
    have F9 : Fr (fun k => k = R) w W9 := by rw [← hW9]; exact fr7 F2.out (Or.inr (Nat.le_refl _)) _ _ _ _ _ _ _
    have F19 : Fr (fun k => k = w.heap.size) W2 W9 := by rw [← hW9]; exact fr7 (Fr.refl (fun k => k = w.heap.size) W2) (Or.inl rfl) _ _ _ _ _ _ _
    clear hW9
    obtain ⟨x0, x1, x2, x3, x4, x5, x6, -, -, -, -, -, -, -⟩ := b9
    refine bodyPost_ret (by simp [results, Tryz.results74, go_sem, x0, x1, x2, x3, x4, x5, x6]; try rfl) rfl ?_
    exact ⟨rfl, F9, fun t r e => RdAt.fr (A2.out t r e) F19 (fun k e => by omega)⟩
  case neg =>
    go_enter Tryz.func74, Tryz.ntmps74
    go_wp2_with fail
    refine (CN.out _ (by go_grown)).mono ?_
    rintro e w1 ⟨rfl, hF, hN⟩
    have F1 : Hid (Fr (fun k => k = R) w w1) := ((Fr.refl (fun k => k = R) w).alloc _).trans hF (fun k e => Or.inl e)
    have z1 : w.heap.size < w1.heap.size := by have := hF.size; simp at this; omega
    have R1 : Hid (BlkT w1 w.heap.size 0 0 ⟨#[]⟩ 0 0 0 ⟨#[]⟩) := BlkT.fr (W := w.alloc (.cells #[.int .i64 0, .int .i64 0, .string ⟨#[]⟩, .int .i64 0, .int .i64 0, .int .i64 0, .string ⟨#[]⟩] 58)) (by constructor <;> simp (maxDischargeDepth := 16) [go_sem]) hF (by simp) (fun e => by omega)
    have N1 : Hid (∀ t r, ts = t :: r → RdAt m w1 R sz r) := hN
    clear hF hN CN
    go_upto_region 2 with fail
    refine wp_world ?_
    intro W2 hW2
    have R2 : Hid (BlkT W2 w.heap.size 0 0 ⟨#[]⟩ 0 0 0 ⟨#[]⟩) := by rw [hW2]; exact R1.out.below ((Below.refl w1.heap.size w1).alloc (Nat.le_refl _) _) z1
    have V2 : Hid (BlkT W2 w1.heap.size tk ta tx vk vn vd vs) := by rw [hW2]; constructor <;> simp (maxDischargeDepth := 16) [go_sem]
    have F2 : Hid (Fr (fun k => k = R) w W2) := by rw [hW2]; exact F1.out.alloc _
    have A2 : Hid (∀ t r, ts = t :: r → RdAt m W2 R sz r) := fun t r e => by rw [hW2]; exact (N1.out t r e).below ((Below.refl w1.heap.size w1).alloc (Nat.le_refl _) _)
    clear hW2 R1 F1 N1
    obtain ⟨r0, r1, r2, r3, r4, r5, r6, q0, q1, q2, q3, q4, q5, q6⟩ := R2.out
    obtain ⟨v0, v1, v2, v3, v4, v5, v6, -, -, -, -, -, -, -⟩ := V2.out
    generalize w1.heap.size = n1 at *
    go_wp2
    generalize hW9 : World.setCell _ _ _ = W9
    have b9 : BlkT W9 w.heap.size tk ta tx vk vn vd vs := by rw [← hW9]; exact R2.out.seven
    have F9 : Fr (fun k => k = R) w W9 := by rw [← hW9]; exact fr7 F2.out (Or.inr (Nat.le_refl _)) _ _ _ _ _ _ _
    have F19 : Fr (fun k => k = w.heap.size) W2 W9 := by rw [← hW9]; exact fr7 (Fr.refl (fun k => k = w.heap.size) W2) (Or.inl rfl) _ _ _ _ _ _ _
    clear hW9
    obtain ⟨x0, x1, x2, x3, x4, x5, x6, -, -, -, -, -, -, -⟩ := b9
    refine bodyPost_ret (by simp [results, Tryz.results74, go_sem, x0, x1, x2, x3, x4, x5, x6]; try rfl) rfl ?_
    exact ⟨rfl, F9, fun t r e => RdAt.fr (A2.out t r e) F19 (fun k e => by omega)⟩
end Go.Proofs.YticnfeolbfmgfaaGreatDoor

namespace Go.Proofs.YticnfeolbfmgfaaGreatDoor
open Go.RowKit LX Go.Shelf
set_option linter.unusedVariables false

theorem nameB_nil : nameB ⟨#[]⟩ = false := rfl
/-- The first token, in a box of its own. -/
theorem tb_nil {sz : Nat} : txB (tkH sz []) = ⟨#[]⟩ := rfl
theorem rName_eq (sz : Nat) (ts : List (Tok Val)) : ∃ u, rName sz ts = (if nameB (txB (tkH sz ts)) then .ok (txB (tkH sz ts)) u else .bad 70 (tkH sz ts).at_) ∧ (nameB (txB (tkH sz ts)) = true → ∃ t, ts = t :: u) := by
  cases ts with
  | nil => exact ⟨[], rfl, fun e => by rw [tb_nil, nameB_nil] at e; cases e⟩
  | cons t r => exact ⟨r, rfl, fun _ => ⟨t, rfl⟩⟩
set_option maxRecDepth 100000 in
set_option maxHeartbeats 8000000 in
theorem rdname_any (m R sz : Nat) (ts : List (Tok Val)) (w : World) (h : RdAt m w R sz ts) :
    Calls Tryz.prog 154 #[.pointer (some ⟨R, 0, none⟩)] w (RdO m R sz w (fun x v _ => v = .string x) (rName sz ts)) := by
  have CN : Hid (∀ W : World, Below w.heap.size w W → Calls Tryz.prog 32 #[.pointer (some ⟨R, 0, none⟩)] W (NxO m R sz ts W (.agg #[.int .i64 (tkH sz ts).k, .int .i64 (tkH sz ts).at_, .string (txB (tkH sz ts)), .int .i64 (tkH sz ts).v.k, .int .i64 (tkH sz ts).v.n, .int .i64 (tkH sz ts).v.d, .string (tkH sz ts).v.s]))) := fun W hW => next_at m R sz ts W (h.below hW)
  obtain ⟨u, hu, hT⟩ := rName_eq sz ts
  rw [hu]
  obtain ⟨tb, htb⟩ : ∃ b : Bool, Hid (nameB (txB (tkH sz ts)) = b) := ⟨_, rfl⟩
  have hNm : Hid (∀ W : World, Calls Tryz.prog 119 #[.string (txB (tkH sz ts))] W fun e w' => e = .returned (.bool tb) ∧ w' = W) := fun W => (name_any _ W).mono fun e w' h => ⟨by rw [h.1, htb.out], h.2⟩
  rw [htb.out] at hT ⊢
  clear htb hu
  generalize (tkH sz ts).k = tk at *
  generalize (tkH sz ts).at_ = ta at *
  generalize txB (tkH sz ts) = tx at *
  generalize (tkH sz ts).v.k = vk at *
  generalize (tkH sz ts).v.n = vn at *
  generalize (tkH sz ts).v.d = vd at *
  generalize (tkH sz ts).v.s = vs at *
  cases tb with
  | true =>
    obtain ⟨t, ht⟩ := hT rfl
    rw [if_pos rfl]
    go_enter Tryz.func154, Tryz.ntmps154
    go_wp2_with fail
    refine (CN.out _ (by go_grown)).mono ?_
    rintro e w1 ⟨rfl, hF, hN⟩
    have F1 : Hid (Fr (fun k => k = R) w w1) := hF
    have N1 : Hid (∀ t r, ts = t :: r → RdAt m w1 R sz r) := hN
    clear hF hN CN
    go_wp2_with fail
    refine (hNm.out _).mono ?_
    rintro e w2 ⟨rfl, rfl⟩
    clear hNm
    have A1 : Hid (RdAt m w1 R sz u) := N1.out t u ht
    clear N1
    go_wp2
    go_ret
    exact ⟨_, rfl, rfl, A1.out.below (by go_grown), F1.out.alloc _⟩
  | false =>
    rw [if_neg (by simp)]
    clear hT
    go_enter Tryz.func154, Tryz.ntmps154
    go_wp2_with fail
    refine (CN.out _ (by go_grown)).mono ?_
    rintro e w1 ⟨rfl, hF, hN⟩
    have F1 : Hid (Fr (fun k => k = R) w w1) := hF
    have N1 : Hid (∀ t r, ts = t :: r → RdAt m w1 R sz r) := hN
    clear hF hN CN
    go_wp2_with fail
    refine (hNm.out _).mono ?_
    rintro e w2 ⟨rfl, rfl⟩
    clear hNm
    clear N1
    go_wp2_with fail
    refine (misplaced_at _ _ _ _ _ _ _ _).mono ?_
    rintro e w3 ⟨rfl, hb3⟩
    have F3 : Fr (fun k => k = R) w w3 := (F1.out.alloc _).trans (Fr.of_below (P := fun _ => False) hb3) (fun _ q => q.elim)
    clear hb3 F1
    go_wp2
    exact ⟨rfl, rfl, F3⟩
end Go.Proofs.YticnfeolbfmgfaaGreatDoor

namespace Go.Proofs.YticnfeolbfmgfaaGreatDoor
open Go.RowKit LX Go.Shelf
set_option linter.unusedVariables false

theorem rNms_end {sz : Nat} {r : List (Tok Val)} (h : clos r = true) : rNms sz r = .ok [] r := by
  cases r with
  | nil => cases h
  | cons t r => rw [rNms, if_pos (of_decide_eq_true h)]
theorem rNms_bad {sz : Nat} {r : List (Tok Val)} {e a : Int} (h : clos r = false) (hn : rName sz r = .bad e a) : rNms sz r = .bad e a := by
  cases r with
  | nil => injection hn with h1 h2; subst h1 h2; rfl
  | cons t r =>
    rw [rNms, if_neg (of_decide_eq_false h)]
    rw [rName] at hn
    split at hn
    · cases hn
    · rename_i hb
      rw [if_neg hb]
      injection hn with h1 h2; subst h1 h2; rfl
theorem rNms_ok {sz : Nat} {r r2 : List (Tok Val)} {x : ByteArray} (h : clos r = false) (hn : rName sz r = .ok x r2) : rNms sz r = (rNms sz r2).bind fun l r' => .ok (x :: l) r' := by
  cases r with
  | nil => cases hn
  | cons t r =>
    rw [rNms, if_neg (of_decide_eq_false h)]
    rw [rName] at hn
    split at hn
    · rename_i hb
      rw [if_pos hb]
      injection hn with h1 h2
      subst h1 h2
      rfl
    · cases hn
theorem rName_shorter {sz : Nat} {r r2 : List (Tok Val)} {x : ByteArray} (hn : rName sz r = .ok x r2) : r2.length + 1 ≤ r.length := by
  have h := sh_name sz r x r2 hn
  cases r with
  | nil => cases hn
  | cons t r => simp at h ⊢; omega
/-- How many tokens a reader has, the last one with them. -/
def rdLen (R : Nat) (w : World) : Nat := match w.cell? ⟨R, 0, none⟩ with
  | some (.slice _ n _) => n
  | _ => 0
theorem RdAt.len {m : Nat} {w : World} {R sz : Nat} {ts : List (Tok Val)} (h : RdAt m w R sz ts) : rdLen R w = ts.length + 1 := by
  obtain ⟨b, off, c, h1, -⟩ := h
  have hc : w.cell? ⟨R, 0, none⟩ = some (.slice (some ⟨b, off, none⟩) (ts.length + 1) c) := by rw [Lib.cell_of_heap h1]; rfl
  unfold rdLen
  rw [hc]
theorem RdAt.many {m : Nat} {w : World} {R sz : Nat} {ts : List (Tok Val)} (h : RdAt m w R sz ts) : ts.length ≤ 16384 := by
  obtain ⟨b, off, c, h1, h2, h3, h4, h5, -⟩ := h
  exact h5.1
theorem Rd.bind_assoc {α β γ : Type} (x : Rd α) (f : α → List (Tok Val) → Rd β) (g : β → List (Tok Val) → Rd γ) : (x.bind f).bind g = x.bind fun a r => (f a r).bind g := by cases x <;> rfl
theorem Rd.bind_id {α : Type} (x : Rd α) (f : α → α) (h : ∀ a, f a = a) : (x.bind fun a r => .ok (f a) r) = x := by
  cases x with
  | bad e a => rfl
  | ok a r => rw [Rd.bind_ok, h]
set_option maxRecDepth 100000 in
set_option maxHeartbeats 8000000 in
theorem rdnames_any (m R sz : Nat) (ts : List (Tok Val)) (w : World) (h : RdAt m w R sz ts) :
    Calls Tryz.prog 156 #[.pointer (some ⟨R, 0, none⟩)] w (RdO m R sz w (fun l v w' => OwnN w.heap.size v l w') (rList sz ts)) := by
  obtain ⟨i0, hi, hz0, hz1, hz2⟩ := info_parts inStA
  have hlt := h.lt
  have CE : Hid (Calls Tryz.prog 76 #[.pointer (some ⟨R, 0, none⟩), .string ⟨#[40]⟩] w (RdO m R sz w (fun _ _ _ => True) (rExp sz [40] ts))) := expect_any m R sz ts ⟨#[40]⟩ (by decide) w h
  unfold rList
  cases hE : rExp sz [40] ts with
  | bad er a =>
    rw [hE] at CE
    rw [Rd.bind_bad]
    go_enter Tryz.func156, Tryz.ntmps156
    go_wp2_with fail
    refine CE.out.mono ?_
    rintro e w1 ⟨rfl, hF⟩
    exact ⟨rfl, rfl, hF⟩
  | ok uu r1 =>
    rw [hE] at CE
    rw [Rd.bind_ok]
    clear h hE
    obtain ⟨RS, hRS⟩ : ∃ x : Rd (List ByteArray), Hid (((rNms sz r1).bind fun l r' => (rExp sz [41] r').bind fun _ r'' => Rd.ok l r'') = x) := ⟨_, rfl⟩
    rw [hRS.out]
    go_enter Tryz.func156, Tryz.ntmps156
    go_wp2_with fail
    refine CE.out.mono ?_
    rintro e w1 ⟨v1, rfl, -, hA, hF⟩
    have z1 : w.heap.size ≤ w1.heap.size := hF.size
    have A1 : Hid (RdAt m w1 R sz r1) := hA
    have F1 : Hid (Fr (fun k => k = R) w w1) := hF
    have hr1 : r1.length ≤ 16384 := hA.many
    clear hA hF CE
    go_wp2
    go_loopw [3] (fun v wr => ∃ (L : List ByteArray) (r : List (Tok Val)), Hid (rNms sz r1 = (rNms sz r).bind fun l r' => .ok (L ++ l) r') ∧ Hid (RdAt m wr R sz r) ∧ Hid (Fr (fun k => k = R) w wr) ∧ Hid (OwnN w.heap.size v L wr) ∧ L.length + r.length ≤ 16384) (fun _ wr => rdLen R wr)
    case atStart => exact ⟨[], r1, (Rd.bind_id _ _ (fun a => rfl)).symm, A1, F1, OwnN.nil _ _, by simpa using hr1⟩
    case round =>
      obtain ⟨L, r, hE, hA, hF, hO, hn⟩ := hrel
      have HL := hA.out.len
      have hsz := hF.out.size
      have cC : Hid (Calls Tryz.prog 152 #[.pointer (some ⟨R, 0, none⟩)] wr fun e w' => e = .returned (.bool (clos r)) ∧ w' = wr) := closes_any m R sz r wr hA.out
      cases hcl : clos r with
      | true =>
        rw [hcl] at cC
        have hN : Hid (rNms sz r = .ok [] r) := rNms_end hcl
        go_wp2_with fail
        refine cC.out.mono ?_
        rintro e w2 ⟨rfl, hw2⟩
        obtain rfl := hw2.symm
        have CE2 : Hid (Calls Tryz.prog 76 #[.pointer (some ⟨R, 0, none⟩), .string ⟨#[41]⟩] wr (RdO m R sz wr (fun _ _ _ => True) (rExp sz [41] r))) := expect_any m R sz r ⟨#[41]⟩ (by decide) wr hA.out
        have hG : Hid (RS = (rExp sz [41] r).bind fun _ r'' => Rd.ok L r'') := by
          show _ = _
          rw [← hRS.out, hE.out, hN.out, Rd.bind_ok, Rd.bind_ok, List.append_nil]
        cases hE2 : rExp sz [41] r with
        | bad er a =>
          rw [hE2] at CE2 hG
          clear hE hN cC hcl HL hRS
          go_wp2_with fail
          refine CE2.out.mono ?_
          rintro e w3 ⟨rfl, hF3⟩
          refine ⟨rfl, ?_⟩
          rw [hG.out]
          exact ⟨rfl, hF.out.trans hF3 (fun k e => Or.inl e)⟩
        | ok u2 r2 =>
          rw [hE2] at CE2 hG
          clear hE hN cC hcl HL hRS
          go_wp2_with fail
          refine CE2.out.mono ?_
          rintro e w3 ⟨v3, rfl, -, hA3, hF3⟩
          have F3 : Hid (Fr (fun k => k = R) w w3) := hF.out.trans hF3 (fun k e => Or.inl e)
          have A3 : Hid (RdAt m w3 R sz r2) := hA3
          have O3 : Hid (OwnN w.heap.size u3 L w3) := hF3.row hO.out (fun k hk e => by have := (World.ownsRow.lt hO.out k hk).1; omega)
          clear hF3 hA3 CE2
          go_wp2
          go_ret
          rw [hG.out]
          exact ⟨_, rfl, O3.out, A3.out, F3.out⟩
      | false =>
        rw [hcl] at cC
        have cM : Hid (Calls Tryz.prog 154 #[.pointer (some ⟨R, 0, none⟩)] wr (RdO m R sz wr (fun x v _ => v = .string x) (rName sz r))) := rdname_any m R sz r wr hA.out
        cases hR : rName sz r with
        | bad er a =>
          rw [hR] at cM
          have hG : Hid (RS = Rd.bad er a) := by
            show _ = _
            rw [← hRS.out, hE.out, rNms_bad hcl hR, Rd.bind_bad, Rd.bind_bad]
          clear hE hcl HL hR hRS
          go_wp2_with fail
          refine cC.out.mono ?_
          rintro e w2 ⟨rfl, hw2⟩
          obtain rfl := hw2.symm
          go_wp2_with fail
          refine cM.out.mono ?_
          rintro e w3 ⟨rfl, hF3⟩
          refine ⟨rfl, ?_⟩
          rw [hG.out]
          exact ⟨rfl, hF.out.trans hF3 (fun k e => Or.inl e)⟩
        | ok X r2 =>
          rw [hR] at cM
          have hsh := rName_shorter hR
          have hE3 : Hid (rNms sz r1 = (rNms sz r2).bind fun l r' => .ok ((L ++ [X]) ++ l) r') := by
            show _ = _
            rw [hE.out, rNms_ok hcl hR, Rd.bind_assoc]
            simp only [Rd.bind_ok, List.append_assoc, List.cons_append, List.nil_append]
          clear hE hcl hR
          go_wp2_with fail
          refine cC.out.mono ?_
          rintro e w2 ⟨rfl, hw2⟩
          obtain rfl := hw2.symm
          go_wp2_with fail
          refine cM.out.mono ?_
          rintro e w3 ⟨v3, rfl, rfl, hA3, hF3⟩
          have F3 : Hid (Fr (fun k => k = R) w w3) := hF.out.trans hF3 (fun k e => Or.inl e)
          have A3 : Hid (RdAt m w3 R sz r2) := hA3
          have O3 : Hid (OwnN w.heap.size u3 L w3) := hF3.row hO.out (fun k hk e => by have := (World.ownsRow.lt hO.out k hk).1; omega)
          have HK : Hid (∀ q, u3.ownBlock = some q → w.heap.size ≤ q) := fun q hq => (World.ownsRow.lt O3.out q hq).1
          have hsz3 : w.heap.size ≤ w3.heap.size := F3.out.size
          clear hF3 hA3 cM cC hF hA hO
          go_wp2_with (at_builtin; refine wpList_append_own _ rfl _ _ 22 rfl w.heap.size 9 i0 (.string ByteArray.empty) 1 16 Tryz.underlying22 hi hz0 hz1 hz2 rfl (by decide) _ _ _ rfl (World.ownsRow.alloc O3.out _) ⟨w3.heap.size, 0, none⟩ 1 1 [.string X] rfl rfl ?cc1 ?cc2 ?cc3 ?cc4 ?cc5 ?_)
          case cc1 => (intro j u hj; rw [Addr.add_lit]; (rcases j with _ | j) <;> simp at hj <;> subst hj <;> simp (maxDischargeDepth := 12) [go_sem])
          case cc2 => (intro u hu; simp at hu; subst hu; rfl)
          case cc3 => unfold maxLen; omega
          case cc4 => omega
          case cc5 => first | omega | (simp; omega)
          intro v' w4 h2 h3 _
          have O4 : Hid (OwnN w.heap.size v' (L ++ [X]) w4) := by
            show w4.ownsRow _ _ _ _ _ _
            rw [List.length_append, List.map_append]
            exact h2
          have F4 : Hid (Fr (fun k => k = R) w w4) := (F3.out.alloc _).grown h3 (fun k e => Or.inr (HK.out k e))
          have A4 : Hid (RdAt m w4 R sz r2) := (A3.out.below ((Below.refl _ _).alloc (Nat.le_refl _) _)).fr (P := fun k => w.heap.size ≤ k) ((Fr.refl _ _).grown h3 (fun k e => Or.inl (HK.out k e))) (fun k e => by omega)
          have HL4 := A4.out.len
          clear h2 h3 HK O3
          go_wp2
          exact ⟨⟨L ++ [X], r2, hE3, A4, F4, O4, by simp; omega⟩, by omega⟩
end Go.Proofs.YticnfeolbfmgfaaGreatDoor

namespace Go.Proofs.YticnfeolbfmgfaaGreatDoor
open Go.RowKit LX Go.Shelf
set_option linter.unusedVariables false

set_option maxRecDepth 100000 in
set_option maxHeartbeats 8000000 in
theorem opWord_any (k : Int) (w : World) : Calls Tryz.prog 36 #[.int .i64 k] w fun e w' => e = .returned (.string ⟨(hdO k).toArray⟩) ∧ w' = w := by
  unfold hdO
  by_cases h1 : k = 1
  · subst h1
    go_enter Tryz.func36, Tryz.ntmps36
    go_wp2
    go_ret
    exact ⟨rfl, rfl⟩
  by_cases h2 : k = 2
  · subst h2
    go_enter Tryz.func36, Tryz.ntmps36
    go_wp2
    go_ret
    exact ⟨rfl, rfl⟩
  by_cases h3 : k = 3
  · subst h3
    go_enter Tryz.func36, Tryz.ntmps36
    go_wp2
    go_ret
    exact ⟨rfl, rfl⟩
  by_cases h4 : k = 4
  · subst h4
    go_enter Tryz.func36, Tryz.ntmps36
    go_wp2
    go_ret
    exact ⟨rfl, rfl⟩
  by_cases h5 : k = 5
  · subst h5
    go_enter Tryz.func36, Tryz.ntmps36
    go_wp2
    go_ret
    exact ⟨rfl, rfl⟩
  by_cases h6 : k = 6
  · subst h6
    go_enter Tryz.func36, Tryz.ntmps36
    go_wp2
    go_ret
    exact ⟨rfl, rfl⟩
  rw [if_neg h1, if_neg h2, if_neg h3, if_neg h4, if_neg h5, if_neg h6]
  go_enter Tryz.func36, Tryz.ntmps36
  go_wp2
  go_ret
  exact ⟨rfl, rfl⟩
set_option maxRecDepth 100000 in
set_option maxHeartbeats 8000000 in
theorem termHead_any (k : Int) (w : World) : Calls Tryz.prog 83 #[.int .i64 k] w fun e w' => e = .returned (.string ⟨(hdT k).toArray⟩) ∧ w' = w := by
  unfold hdT
  by_cases h3 : k = 3
  · subst h3
    go_enter Tryz.func83, Tryz.ntmps83
    go_wp2
    go_ret
    exact ⟨rfl, rfl⟩
  by_cases h4 : k = 4
  · subst h4
    go_enter Tryz.func83, Tryz.ntmps83
    go_wp2
    go_ret
    exact ⟨rfl, rfl⟩
  by_cases h5 : k = 5
  · subst h5
    go_enter Tryz.func83, Tryz.ntmps83
    go_wp2
    go_ret
    exact ⟨rfl, rfl⟩
  rw [if_neg h3, if_neg h4, if_neg h5]
  go_enter Tryz.func83, Tryz.ntmps83
  go_wp2
  go_ret
  exact ⟨rfl, rfl⟩
set_option maxRecDepth 100000 in
set_option maxHeartbeats 8000000 in
theorem regexHead_any (k : Int) (w : World) : Calls Tryz.prog 84 #[.int .i64 k] w fun e w' => e = .returned (.string ⟨(hdR k).toArray⟩) ∧ w' = w := by
  unfold hdR
  by_cases h1 : k = 1
  · subst h1
    go_enter Tryz.func84, Tryz.ntmps84
    go_wp2
    go_ret
    exact ⟨rfl, rfl⟩
  by_cases h2 : k = 2
  · subst h2
    go_enter Tryz.func84, Tryz.ntmps84
    go_wp2
    go_ret
    exact ⟨rfl, rfl⟩
  by_cases h3 : k = 3
  · subst h3
    go_enter Tryz.func84, Tryz.ntmps84
    go_wp2
    go_ret
    exact ⟨rfl, rfl⟩
  by_cases h4 : k = 4
  · subst h4
    go_enter Tryz.func84, Tryz.ntmps84
    go_wp2
    go_ret
    exact ⟨rfl, rfl⟩
  by_cases h5 : k = 5
  · subst h5
    go_enter Tryz.func84, Tryz.ntmps84
    go_wp2
    go_ret
    exact ⟨rfl, rfl⟩
  rw [if_neg h1, if_neg h2, if_neg h3, if_neg h4, if_neg h5]
  go_enter Tryz.func84, Tryz.ntmps84
  go_wp2
  go_ret
  exact ⟨rfl, rfl⟩
theorem kindIn_succ (h : Int → List UInt8) (x : List UInt8) (a : Int) (n : Nat) : kindIn h x a (n + 1) = if h a = x then some a else kindIn h x (a + 1) n := rfl
theorem rOp_eq (sz : Nat) (ts : List (Tok Val)) : ∃ u, rOp sz ts = (match kindIn hdO (tkH sz ts).x 1 6 with | none => .bad 70 (tkH sz ts).at_ | some k => .ok k u) ∧ (∀ k, kindIn hdO (tkH sz ts).x 1 6 = some k → ∃ t, ts = t :: u) := by
  cases ts with
  | nil => exact ⟨[], rfl, fun k e => by have h : kindIn hdO (tkH sz []).x 1 6 = none := rfl; rw [h] at e; cases e⟩
  | cons t r => exact ⟨r, rfl, fun _ _ => ⟨t, rfl⟩⟩
set_option maxRecDepth 100000 in
set_option maxHeartbeats 8000000 in
theorem roper_any (m R sz : Nat) (ts : List (Tok Val)) (w : World) (h : RdAt m w R sz ts) :
    Calls Tryz.prog 155 #[.pointer (some ⟨R, 0, none⟩)] w (RdO m R sz w (fun k v _ => v = .int .i64 k) (rOp sz ts)) := by
  have CN : Hid (∀ W : World, Below w.heap.size w W → Calls Tryz.prog 32 #[.pointer (some ⟨R, 0, none⟩)] W (NxO m R sz ts W (.agg #[.int .i64 (tkH sz ts).k, .int .i64 (tkH sz ts).at_, .string (txB (tkH sz ts)), .int .i64 (tkH sz ts).v.k, .int .i64 (tkH sz ts).v.n, .int .i64 (tkH sz ts).v.d, .string (tkH sz ts).v.s]))) := fun W hW => next_at m R sz ts W (h.below hW)
  have hlt := h.lt
  obtain ⟨u, hu, hT⟩ := rOp_eq sz ts
  have hxx : Hid (∀ k, (⟨(hdO k).toArray⟩ : ByteArray).toList = hdO k) := fun k => by rw [toList_data]
  have htx : (txB (tkH sz ts)).toList = (tkH sz ts).x := by rw [toList_data]; rfl
  obtain ⟨RS, hRS⟩ : ∃ x : Rd Int, Hid (rOp sz ts = x) := ⟨_, rfl⟩
  rw [hRS.out]
  rw [hRS.out] at hu
  have HU : Hid (RS = (match kindIn hdO (tkH sz ts).x 1 6 with | none => Rd.bad 70 (tkH sz ts).at_ | some k => Rd.ok k u)) := hu
  clear hRS hu
  obtain ⟨xx, hx9⟩ : ∃ l : List UInt8, Hid ((tkH sz ts).x = l) := ⟨_, rfl⟩
  rw [hx9.out] at HU hT htx
  clear hx9
  generalize (tkH sz ts).k = tk at *
  generalize (tkH sz ts).at_ = ta at *
  generalize txB (tkH sz ts) = tx at *
  generalize (tkH sz ts).v.k = vk at *
  generalize (tkH sz ts).v.n = vn at *
  generalize (tkH sz ts).v.d = vd at *
  generalize (tkH sz ts).v.s = vs at *
  go_enter Tryz.func155, Tryz.ntmps155
  go_wp2_with fail
  refine (CN.out _ (by go_grown)).mono ?_
  rintro e w1 ⟨rfl, hF, hN⟩
  have F1 : Hid (Fr (fun k => k = R) w w1) := hF
  have N1 : Hid (∀ t r, ts = t :: r → RdAt m w1 R sz r) := hN
  clear hF hN CN
  go_upto_region 2 with fail
  refine wp_world ?_
  intro W2 hW2
  have V2 : Hid (BlkT W2 w1.heap.size tk ta tx vk vn vd vs) := by rw [hW2]; constructor <;> simp (maxDischargeDepth := 16) [go_sem]
  have F2 : Hid (Fr (fun k => k = R) w W2) := by rw [hW2]; exact F1.out.alloc _
  have A2 : Hid (∀ t r, ts = t :: r → RdAt m W2 R sz r) := fun t r e => by rw [hW2]; exact (N1.out t r e).below ((Below.refl w1.heap.size w1).alloc (Nat.le_refl _) _)
  have hn1 : w1.heap.size < W2.heap.size := by rw [hW2]; simp
  clear hW2 F1 N1
  generalize w1.heap.size = n1 at *
  go_wp2
  go_loopw [4] (fun v wr => ∃ (i : Nat), v = .int .i64 ((i : Int) + 1) ∧ i ≤ 6 ∧ Hid (kindIn hdO xx 1 6 = kindIn hdO xx ((i : Int) + 1) (6 - i)) ∧ Hid (Below W2.heap.size W2 wr)) (fun v _ => 8 - (intOf v).toNat)
  case atStart => exact ⟨0, by simp, by omega, rfl, Below.refl _ _⟩
  case round =>
    obtain ⟨i, rfl, hi, hK, hB⟩ := hrel
    have V3 : Hid (BlkT wr n1 tk ta tx vk vn vd vs) := V2.out.below hB.out hn1
    obtain ⟨v0, v1, v2, v3, v4, v5, v6, -, -, -, -, -, -, -⟩ := V3.out
    have F3 : Hid (Fr (fun k => k = R) w wr) := F2.out.trans (Fr.of_below (P := fun _ => False) hB.out) (fun _ q => q.elim)
    have A3 : Hid (∀ t r, ts = t :: r → RdAt m wr R sz r) := fun t r e => (A2.out t r e).below hB.out
    by_cases h6 : i < 6
    case neg =>
      have c1 : ¬ (i : Int) + 1 ≤ 6 := by omega
      have hG : Hid (RS = Rd.bad 70 ta) := by
        show _ = _
        have e : i = 6 := by omega
        rw [HU.out, hK.out, e]
        rfl
      clear hK HU A3 hT
      go_wp2_with fail
      refine (misplaced_at _ _ _ _ _ _ _ _).mono ?_
      rintro e w3 ⟨rfl, hb3⟩
      have F4 : Fr (fun k => k = R) w w3 := F3.out.trans (Fr.of_below (P := fun _ => False) hb3) (fun _ q => q.elim)
      go_wp2
      refine ⟨rfl, ?_⟩
      rw [hG.out]
      exact ⟨rfl, F4⟩
    have c1 : (i : Int) + 1 ≤ 6 := by omega
    have c2 : Hid (∀ W : World, Calls Tryz.prog 36 #[.int .i64 ((i : Int) + 1)] W fun e w' => e = .returned (.string ⟨(hdO ((i : Int) + 1)).toArray⟩) ∧ w' = W) := fun W => opWord_any _ W
    have e1 : (⟨(hdO ((i : Int) + 1)).toArray⟩ : ByteArray).toList = hdO ((i : Int) + 1) := hxx.out _
    have hK2 : Hid (kindIn hdO xx 1 6 = if hdO ((i : Int) + 1) = xx then some ((i : Int) + 1) else kindIn hdO xx ((i : Int) + 1 + 1) (6 - (i + 1))) := by
      show _ = _
      rw [hK.out]
      have e : 6 - i = (6 - (i + 1)) + 1 := by omega
      rw [e, kindIn_succ]
    clear hK
    generalize (⟨(hdO ((i : Int) + 1)).toArray⟩ : ByteArray) = ww at *
    by_cases hq : hdO ((i : Int) + 1) = xx
    case pos =>
      rw [if_pos hq] at hK2
      obtain ⟨t, ht⟩ := hT _ hK2.out
      have hG : Hid (RS = Rd.ok ((i : Int) + 1) u) := by
        show _ = _
        rw [HU.out, hK2.out]
      have A4 : Hid (RdAt m wr R sz u) := A3.out t u ht
      have q1 : (ww.toList == tx.toList) = true := by rw [e1, htx, hq]; simp
      clear hK2 HU A3 hT ht hq e1 htx
      go_upto_region 5 with fail
      go_region_with (go_at_call 36; refine (c2.out _).mono ?_; rintro e w3 ⟨rfl, hw3⟩; obtain rfl := hw3.symm)
      all_goals
        go_wp2
        go_ret
        rw [hG.out]
        exact ⟨_, rfl, rfl, A4.out.below (by go_grown), F3.out.trans (Fr.of_below (P := fun _ => False) (by go_grown)) (fun _ q => q.elim)⟩
    case neg =>
      rw [if_neg hq] at hK2
      have q1 : (ww.toList == tx.toList) = false := by rw [e1, htx]; simpa using hq
      clear A3 hq e1 htx
      go_upto_region 5 with fail
      go_region_with (go_at_call 36; refine (c2.out _).mono ?_; rintro e w3 ⟨rfl, hw3⟩; obtain rfl := hw3.symm)
      all_goals
        go_wp2
        exact ⟨⟨i + 1, by go_num, by omega, hK2, hB.out.trans (Below.mono (B := wr.heap.size) (by go_grown) hB.out.size)⟩, by simp [intOf]; omega⟩
end Go.Proofs.YticnfeolbfmgfaaGreatDoor

namespace Go.Proofs.YticnfeolbfmgfaaGreatDoor
open Go.RowKit LX Go.Shelf
set_option linter.unusedVariables false

/-- What is left is less. -/
def Shr {α : Type} (p : List (Tok Val) → Rd α) : Prop := ∀ ts a r, p ts = .ok a r → r.length + 1 ≤ ts.length
theorem shr_T (sz n : Nat) (d : Int) : Shr (pT sz n d) := by
  intro ts a r h
  have h1 := sh_T sz n d ts a r h
  cases ts with
  | nil => cases n <;> cases h
  | cons t l => simp at h1 ⊢; omega
theorem shr_FR (sz n : Nat) (d : Int) : Shr ((pFR sz n).1 d) ∧ Shr ((pFR sz n).2 d) := by
  constructor
  · intro ts a r h
    have h1 := (sh_FR sz n).1 d ts a r h
    cases ts with
    | nil => cases n <;> cases h
    | cons t l => simp at h1 ⊢; omega
  · intro ts a r h
    have h1 := (sh_FR sz n).2 d ts a r h
    cases ts with
    | nil => cases n <;> cases h
    | cons t l => simp at h1 ⊢; omega
theorem rMany_go {α : Type} {p : List (Tok Val) → Rd α} {more : Bool} {n k : Nat} {ts : List (Tok Val)} (h : 0 < k ∨ (more = true ∧ clos ts = false)) : rMany p more (n + 1) k ts = (p ts).bind fun a r => (rMany p more n (k - 1) r).bind fun l r' => .ok (a :: l) r' := by rw [rMany, if_pos h]
theorem rMany_end {α : Type} {p : List (Tok Val) → Rd α} {more : Bool} {n k : Nat} {ts : List (Tok Val)} (h : ¬ (0 < k ∨ (more = true ∧ clos ts = false))) : rMany p more (n + 1) k ts = .ok [] ts := by rw [rMany, if_neg h]
/-- A term that was read. -/
def TmV (W : World) (t : Tm) (v : Value) (w' : World) : Prop := ∃ u, v = .agg #[.int .i64 t.k, .string t.nm, .int .i64 t.v.k, .int .i64 t.v.n, .int .i64 t.v.d, .string t.v.s, u] ∧ TmsOwn (fun q => W.heap.size ≤ q) w' u t.subs ∧ t.v.Fits
set_option maxRecDepth 100000 in
set_option maxHeartbeats 8000000 in
theorem terms_step (m R sz N : Nat) (d : Int) (pt : List (Tok Val) → Rd Tm) (hsh : Shr pt) (HT : ∀ (ts : List (Tok Val)) (W : World), ts.length ≤ N → RdAt m W R sz ts → Calls Tryz.prog 153 #[.pointer (some ⟨R, 0, none⟩), .int .i64 d] W (RdO m R sz W (TmV W) (pt ts))) (more : Bool) (n k : Nat) (ts : List (Tok Val)) (w : World) (hN : ts.length ≤ N) (hn : ts.length < n) (h : RdAt m w R sz ts) :
    Calls Tryz.prog 120 #[.pointer (some ⟨R, 0, none⟩), .int .i64 k, .bool more, .int .i64 d] w (RdO m R sz w (fun l v w' => TmsOwn (fun q => w.heap.size ≤ q) w' v l) (rMany pt more n k ts)) := by
  obtain ⟨i0, hi, hz0, hz1, hz2⟩ := info_parts inTmA
  have hlt := h.lt
  have HT9 : Hid (∀ (ts : List (Tok Val)) (W : World), ts.length ≤ N → RdAt m W R sz ts → Calls Tryz.prog 153 #[.pointer (some ⟨R, 0, none⟩), .int .i64 d] W (RdO m R sz W (TmV W) (pt ts))) := HT
  have HSH : Hid (Shr pt) := hsh
  obtain ⟨RS, hRS⟩ : ∃ x : Rd (List Tm), Hid (rMany pt more n k ts = x) := ⟨_, rfl⟩
  rw [hRS.out]
  have A0 : Hid (RdAt m w R sz ts) := h
  have hmn := h.many
  clear h HT hsh
  go_enter Tryz.func120, Tryz.ntmps120
  go_wp2
  go_loopw [9] (fun v wr => ∃ (L : List (Tm × Value)) (r : List (Tok Val)) (n' : Nat), Hid (rMany pt more n k ts = (rMany pt more n' (k - L.length) r).bind fun l r' => .ok (L.map Prod.fst ++ l) r') ∧ r.length < n' ∧ L.length + r.length ≤ ts.length ∧ Hid (RdAt m wr R sz r) ∧ Hid (Fr (fun k => k = R) w wr) ∧ Hid (wr.ownsRow w.heap.size 41 7 v L.length (flatTm L)) ∧ Hid (∀ x ∈ L, x.1.v.Fits ∧ TmsOwn (fun q => w.heap.size ≤ q ∧ v.ownBlock ≠ some q) wr x.2 x.1.subs)) (fun _ wr => rdLen R wr)
  case atStart => exact ⟨[], ts, n, (Rd.bind_id _ _ (fun a => rfl)).symm, hn, by simp, A0, Fr.refl _ _, ⟨rfl, .inl ⟨rfl, rfl⟩⟩, fun x hx => by simp at hx⟩
  case round =>
    obtain ⟨L, r, n', hE, hr, hLr, hA, hF, hO, hS⟩ := hrel
    have HL := hA.out.len
    have hsz := hF.out.size
    obtain ⟨n2, rfl⟩ : ∃ n2, n' = n2 + 1 := ⟨n' - 1, by omega⟩
    have HK : Hid (∀ q, u9.ownBlock = some q → w.heap.size ≤ q) := fun q hq => (World.ownsRow.lt hO.out q hq).1
    have HKw : Hid (∀ q, u9.ownBlock = some q → q < wr.heap.size) := fun q hq => own_lt hO.out hq
    obtain ⟨p9, c9, rfl⟩ := row_form hO.out
    have cC : Hid (Calls Tryz.prog 152 #[.pointer (some ⟨R, 0, none⟩)] wr fun e w' => e = .returned (.bool (clos r)) ∧ w' = wr) := closes_any m R sz r wr hA.out
    have cT : Hid (Calls Tryz.prog 153 #[.pointer (some ⟨R, 0, none⟩), .int .i64 d] wr (RdO m R sz wr (TmV wr) (pt r))) := HT9.out r wr (by omega) hA.out
    by_cases hgo : 0 < k - L.length ∨ (more = true ∧ clos r = false)
    case neg =>
      have hG : Hid (RS = .ok (L.map Prod.fst) r) := by
        show _ = _
        rw [← hRS.out, hE.out, rMany_end hgo, Rd.bind_ok, List.append_nil]
      have hO9 : Hid (TmsOwn (fun q => w.heap.size ≤ q) wr (.slice p9 L.length c9) (L.map Prod.fst)) := by
        have ho := hO.out
        refine .mk L rfl (by simp; omega) (fun x hx => (hS.out x hx).1) ?_ (fun q hq => (World.ownsRow.lt ho q hq).1) (fun x hx => (hS.out x hx).2.mono fun q hq _ => hq.1)
        rw [List.length_map]
        exact own_monoB ho (Nat.zero_le _)
      have g1 : ¬ (L.length : Int) < (k : Int) := by omega
      clear hE cT HT9 hS hRS hO HL
      cases hm : more with
      | false =>
        subst hm
        go_wp2
        go_ret
        rw [hG.out]
        exact ⟨_, rfl, hO9.out, hA.out, hF.out⟩
      | true =>
        subst hm
        have hcl : clos r = true := by
          cases hc : clos r with
          | true => rfl
          | false => exact absurd (Or.inr ⟨rfl, hc⟩) hgo
        rw [hcl] at cC
        clear hgo hcl
        go_wp2_with fail
        refine cC.out.mono ?_
        rintro e w2 ⟨rfl, hw2⟩
        obtain rfl := hw2.symm
        clear cC
        go_wp2
        go_ret
        rw [hG.out]
        exact ⟨_, rfl, hO9.out, hA.out, hF.out⟩
    have hstep : Hid (rMany pt more (n2 + 1) (k - L.length) r = (pt r).bind fun a r => (rMany pt more n2 (k - L.length - 1) r).bind fun l r' => .ok (a :: l) r') := rMany_go hgo
    have hcases : (L.length : Int) < (k : Int) ∨ (¬ (L.length : Int) < (k : Int) ∧ more = true ∧ clos r = false) := by
      rcases hgo with h | h
      · exact Or.inl (by omega)
      · by_cases h2 : (L.length : Int) < (k : Int)
        · exact Or.inl h2
        · exact Or.inr ⟨h2, h⟩
    clear hgo
    cases hP : pt r with
    | bad er a =>
      rw [hP] at cT
      have hG : Hid (RS = .bad er a) := by
        show _ = _
        rw [← hRS.out, hE.out, hstep.out, hP, Rd.bind_bad, Rd.bind_bad]
      clear hE hstep hP hRS HT9 hS hO HL HSH
      rcases hcases with g1 | ⟨g1, hm, hcl⟩
      · clear cC
        go_wp2_with fail
        refine cT.out.mono ?_
        rintro e w3 ⟨rfl, hF3⟩
        refine ⟨rfl, ?_⟩
        rw [hG.out]
        exact ⟨rfl, hF.out.trans hF3 (fun k e => Or.inl e)⟩
      · subst hm
        rw [hcl] at cC
        clear hcl
        go_wp2_with fail
        refine cC.out.mono ?_
        rintro e w2 ⟨rfl, hw2⟩
        obtain rfl := hw2.symm
        clear cC
        go_wp2_with fail
        refine cT.out.mono ?_
        rintro e w3 ⟨rfl, hF3⟩
        refine ⟨rfl, ?_⟩
        rw [hG.out]
        exact ⟨rfl, hF.out.trans hF3 (fun k e => Or.inl e)⟩
    | ok tt r2 =>
      rw [hP] at cT
      have hsh2 := HSH.out r tt r2 hP
      have hE3 : Hid (∀ u : Value, rMany pt more n k ts = (rMany pt more n2 (k - (L ++ [(tt, u)]).length) r2).bind fun l r' => .ok ((L ++ [(tt, u)]).map Prod.fst ++ l) r') := fun u => by
        rw [hE.out, hstep.out, hP, Rd.bind_ok, Rd.bind_assoc]
        have e : k - L.length - 1 = k - (L ++ [(tt, u)]).length := by simp; omega
        rw [e]
        simp only [Rd.bind_ok, List.map_append, List.map_cons, List.map_nil, List.append_assoc, List.cons_append, List.nil_append]
      clear hE hstep hP
      have REST : Hid (∀ w3 u, TmV wr tt u w3 → RdAt m w3 R sz r2 → Fr (fun k => k = R) wr w3 → True) := fun _ _ _ _ _ => trivial
      rcases hcases with g1 | ⟨g1, hm, hcl⟩
      · clear cC
        go_wp2_with fail
        refine cT.out.mono ?_
        rintro e w3 ⟨v3, rfl, ⟨u3, rfl, hT3, hTF⟩, hA3, hF3⟩
        obtain ⟨pu, cu, rfl, -⟩ := hT3.at.form
        have F3 : Hid (Fr (fun k => k = R) w w3) := hF.out.trans hF3 (fun k e => Or.inl e)
        have A3 : Hid (RdAt m w3 R sz r2) := hA3
        have G3 : Hid (Fr (fun k => k = R) wr w3) := hF3
        have O3 : Hid (w3.ownsRow w.heap.size 41 7 (.slice p9 L.length c9) L.length (flatTm L)) := hF3.row hO.out (fun k hk e => by have := HK.out k hk; omega)
        have hsz3 : wr.heap.size ≤ w3.heap.size := hF3.size
        have HT3 : Hid (TmsOwn (fun q => wr.heap.size ≤ q) w3 (.slice pu tt.subs.length cu) tt.subs) := hT3
        have HTF : Hid (tt.v.Fits) := hTF
        have hcs : Hid (∀ u, flatTm [(tt, u)] = [.int .i64 tt.k, .string tt.nm, .int .i64 tt.v.k, .int .i64 tt.v.n, .int .i64 tt.v.d, .string tt.v.s, u]) := fun u => rfl
        clear hF3 hA3 hT3 hTF cT hF hA hO REST
        generalize tt.k = tk at *
        generalize tt.nm = nm at *
        generalize tt.v.k = vk at *
        generalize tt.v.n = vn at *
        generalize tt.v.d = vd at *
        generalize tt.v.s = vs at *
        generalize tt.subs.length = nu at *
        go_wp2_with (at_builtin; refine wpList_append_own_at _ rfl _ _ 23 rfl w.heap.size 41 i0 (.agg #[.int .i64 0, .string ByteArray.empty, .int .i64 0, .int .i64 0, .int .i64 0, .string ByteArray.empty, .slice none 0 0]) 7 88 Tryz.underlying23 hi hz0 hz1 hz2 rfl (by decide) _ _ _ rfl (World.ownsRow.alloc O3.out _) ⟨w3.heap.size, 0, none⟩ 1 1 [.int .i64 tk, .string nm, .int .i64 vk, .int .i64 vn, .int .i64 vd, .string vs, .slice pu nu cu] rfl rfl ?cc1 ?cc2 ?cc3 ?cc4 ?cc5 ?_)
        case cc1 => (intro j u hj; rw [Addr.add_lit]; (rcases j with _ | _ | _ | _ | _ | _ | _ | j) <;> simp at hj <;> subst hj <;> simp (maxDischargeDepth := 12) [go_sem])
        case cc2 => first | rfl | (intro u hu; simp at hu; rcases hu with rfl | rfl | rfl | rfl | rfl | rfl | rfl <;> rfl)
        case cc3 => unfold maxLen; omega
        case cc4 => omega
        case cc5 => first | omega | (simp; omega)
        intro v' w4 h2 h3 _ h5
        have O4 : Hid (w4.ownsRow w.heap.size 41 7 v' (L ++ [(tt, Value.slice pu nu cu)]).length (flatTm (L ++ [(tt, .slice pu nu cu)]))) := by
          unfold Hid
          rw [flatTm_append, hcs.out, List.length_append]
          exact h2
        have F4 : Hid (Fr (fun k => k = R) w w4) := (F3.out.alloc _).grown h3 (fun k e => Or.inr (HK.out k e))
        have A4 : Hid (RdAt m w4 R sz r2) := (A3.out.below ((Below.refl _ _).alloc (Nat.le_refl _) _)).fr (P := fun k => w.heap.size ≤ k) ((Fr.refl _ _).grown h3 (fun k e => Or.inl (HK.out k e))) (fun k e => by omega)
        have HL4 := A4.out.len
        have blk : Hid (∀ q, q < w3.heap.size → (Value.slice p9 L.length c9).ownBlock ≠ some q → w4.heap[q]? = w3.heap[q]?) := fun q hq hne => (h3.block q (by simp; omega) (fun h => hne h.symm)).trans (Below.heap_alloc _ _ q hq)
        have h50 : v'.ownBlock = (Value.slice p9 L.length c9).ownBlock ∨ v'.ownBlock = some (w3.heap.size + 1) := by simpa using h5
        have h5' : Hid (v'.ownBlock = (Value.slice p9 L.length c9).ownBlock ∨ v'.ownBlock = some (w3.heap.size + 1)) := h50
        have S4 : Hid (∀ x ∈ L ++ [(tt, .slice pu nu cu)], x.1.v.Fits ∧ TmsOwn (fun q => w.heap.size ≤ q ∧ v'.ownBlock ≠ some q) w4 x.2 x.1.subs) := fun x hx => by
          rcases List.mem_append.1 hx with hx | hx
          · obtain ⟨a, b⟩ := hS.out x hx
            refine ⟨a, ((b.mono (P' := fun q => (w.heap.size ≤ q ∧ (Value.slice p9 L.length c9).ownBlock ≠ some q) ∧ q < wr.heap.size) fun q h1 h2 => ⟨h1, h2⟩).keep (w' := w4) fun q h1 h2 => ?_).mono fun q h1 _ => ⟨h1.1.1, ?_⟩⟩
            · exact (blk.out q (by omega) h1.1.2).trans (G3.out.block q h1.2 (fun e => by omega))
            · rcases h5'.out with h5 | h5
              · rw [h5]; exact h1.1.2
              · rw [h5]; intro h; injection h with h; omega
          · simp only [List.mem_singleton] at hx
            subst hx
            refine ⟨HTF.out, ((HT3.out.mono (P' := fun q => wr.heap.size ≤ q ∧ q < w3.heap.size) fun q h1 h2 => ⟨h1, h2⟩).keep (w' := w4) fun q h1 h2 => ?_).mono fun q h1 _ => ⟨by omega, ?_⟩⟩
            · exact blk.out q h2 (fun h => by have := HKw.out q h; omega)
            · rcases h5'.out with h5 | h5
              · rw [h5]; intro h; have := HKw.out q h; omega
              · rw [h5]; intro h; injection h with h; omega
        clear h2 h3 h5 h50 HK O3 hS blk HT3 h5' HKw hcs HT9
        go_wp2
        exact ⟨⟨L ++ [(tt, .slice pu nu cu)], r2, n2, hE3.out _, by omega, by simp; omega, A4, F4, O4, S4⟩, by omega⟩
      · subst hm
        rw [hcl] at cC
        clear hcl
        go_wp2_with fail
        refine cC.out.mono ?_
        rintro e w2 ⟨rfl, hw2⟩
        obtain rfl := hw2.symm
        clear cC
        go_wp2_with fail
        refine cT.out.mono ?_
        rintro e w3 ⟨v3, rfl, ⟨u3, rfl, hT3, hTF⟩, hA3, hF3⟩
        obtain ⟨pu, cu, rfl, -⟩ := hT3.at.form
        have F3 : Hid (Fr (fun k => k = R) w w3) := hF.out.trans hF3 (fun k e => Or.inl e)
        have A3 : Hid (RdAt m w3 R sz r2) := hA3
        have G3 : Hid (Fr (fun k => k = R) wr w3) := hF3
        have O3 : Hid (w3.ownsRow w.heap.size 41 7 (.slice p9 L.length c9) L.length (flatTm L)) := hF3.row hO.out (fun k hk e => by have := HK.out k hk; omega)
        have hsz3 : wr.heap.size ≤ w3.heap.size := hF3.size
        have HT3 : Hid (TmsOwn (fun q => wr.heap.size ≤ q) w3 (.slice pu tt.subs.length cu) tt.subs) := hT3
        have HTF : Hid (tt.v.Fits) := hTF
        have hcs : Hid (∀ u, flatTm [(tt, u)] = [.int .i64 tt.k, .string tt.nm, .int .i64 tt.v.k, .int .i64 tt.v.n, .int .i64 tt.v.d, .string tt.v.s, u]) := fun u => rfl
        clear hF3 hA3 hT3 hTF cT hF hA hO REST
        generalize tt.k = tk at *
        generalize tt.nm = nm at *
        generalize tt.v.k = vk at *
        generalize tt.v.n = vn at *
        generalize tt.v.d = vd at *
        generalize tt.v.s = vs at *
        generalize tt.subs.length = nu at *
        go_wp2_with (at_builtin; refine wpList_append_own_at _ rfl _ _ 23 rfl w.heap.size 41 i0 (.agg #[.int .i64 0, .string ByteArray.empty, .int .i64 0, .int .i64 0, .int .i64 0, .string ByteArray.empty, .slice none 0 0]) 7 88 Tryz.underlying23 hi hz0 hz1 hz2 rfl (by decide) _ _ _ rfl (World.ownsRow.alloc O3.out _) ⟨w3.heap.size, 0, none⟩ 1 1 [.int .i64 tk, .string nm, .int .i64 vk, .int .i64 vn, .int .i64 vd, .string vs, .slice pu nu cu] rfl rfl ?cc1 ?cc2 ?cc3 ?cc4 ?cc5 ?_)
        case cc1 => (intro j u hj; rw [Addr.add_lit]; (rcases j with _ | _ | _ | _ | _ | _ | _ | j) <;> simp at hj <;> subst hj <;> simp (maxDischargeDepth := 12) [go_sem])
        case cc2 => first | rfl | (intro u hu; simp at hu; rcases hu with rfl | rfl | rfl | rfl | rfl | rfl | rfl <;> rfl)
        case cc3 => unfold maxLen; omega
        case cc4 => omega
        case cc5 => first | omega | (simp; omega)
        intro v' w4 h2 h3 _ h5
        have O4 : Hid (w4.ownsRow w.heap.size 41 7 v' (L ++ [(tt, Value.slice pu nu cu)]).length (flatTm (L ++ [(tt, .slice pu nu cu)]))) := by
          unfold Hid
          rw [flatTm_append, hcs.out, List.length_append]
          exact h2
        have F4 : Hid (Fr (fun k => k = R) w w4) := (F3.out.alloc _).grown h3 (fun k e => Or.inr (HK.out k e))
        have A4 : Hid (RdAt m w4 R sz r2) := (A3.out.below ((Below.refl _ _).alloc (Nat.le_refl _) _)).fr (P := fun k => w.heap.size ≤ k) ((Fr.refl _ _).grown h3 (fun k e => Or.inl (HK.out k e))) (fun k e => by omega)
        have HL4 := A4.out.len
        have blk : Hid (∀ q, q < w3.heap.size → (Value.slice p9 L.length c9).ownBlock ≠ some q → w4.heap[q]? = w3.heap[q]?) := fun q hq hne => (h3.block q (by simp; omega) (fun h => hne h.symm)).trans (Below.heap_alloc _ _ q hq)
        have h50 : v'.ownBlock = (Value.slice p9 L.length c9).ownBlock ∨ v'.ownBlock = some (w3.heap.size + 1) := by simpa using h5
        have h5' : Hid (v'.ownBlock = (Value.slice p9 L.length c9).ownBlock ∨ v'.ownBlock = some (w3.heap.size + 1)) := h50
        have S4 : Hid (∀ x ∈ L ++ [(tt, .slice pu nu cu)], x.1.v.Fits ∧ TmsOwn (fun q => w.heap.size ≤ q ∧ v'.ownBlock ≠ some q) w4 x.2 x.1.subs) := fun x hx => by
          rcases List.mem_append.1 hx with hx | hx
          · obtain ⟨a, b⟩ := hS.out x hx
            refine ⟨a, ((b.mono (P' := fun q => (w.heap.size ≤ q ∧ (Value.slice p9 L.length c9).ownBlock ≠ some q) ∧ q < wr.heap.size) fun q h1 h2 => ⟨h1, h2⟩).keep (w' := w4) fun q h1 h2 => ?_).mono fun q h1 _ => ⟨h1.1.1, ?_⟩⟩
            · exact (blk.out q (by omega) h1.1.2).trans (G3.out.block q h1.2 (fun e => by omega))
            · rcases h5'.out with h5 | h5
              · rw [h5]; exact h1.1.2
              · rw [h5]; intro h; injection h with h; omega
          · simp only [List.mem_singleton] at hx
            subst hx
            refine ⟨HTF.out, ((HT3.out.mono (P' := fun q => wr.heap.size ≤ q ∧ q < w3.heap.size) fun q h1 h2 => ⟨h1, h2⟩).keep (w' := w4) fun q h1 h2 => ?_).mono fun q h1 _ => ⟨by omega, ?_⟩⟩
            · exact blk.out q h2 (fun h => by have := HKw.out q h; omega)
            · rcases h5'.out with h5 | h5
              · rw [h5]; intro h; have := HKw.out q h; omega
              · rw [h5]; intro h; injection h with h; omega
        clear h2 h3 h5 h50 HK O3 hS blk HT3 h5' HKw hcs HT9
        go_wp2
        exact ⟨⟨L ++ [(tt, .slice pu nu cu)], r2, n2, hE3.out _, by omega, by simp; omega, A4, F4, O4, S4⟩, by omega⟩
end Go.Proofs.YticnfeolbfmgfaaGreatDoor

namespace Go.Proofs.YticnfeolbfmgfaaGreatDoor
open Go.RowKit LX Go.Shelf
set_option linter.unusedVariables false

/-- A formula, a regex that was read. -/
def FmV (W : World) (f : Fm) (v : Value) (w' : World) : Prop := ∃ q : FQ, v = .agg #[.int .i64 f.k, .string f.nm, .int .i64 f.op, q.v, q.t, .int .i64 f.lo, .int .i64 f.hi, .bool f.opn, q.s, q.r] ∧ QOwn (fun q => W.heap.size ≤ q) w' (f, q)
def RxV (W : World) (x : Rx) (v : Value) (w' : World) : Prop := ∃ a b : Value, v = .agg #[.int .i64 x.k, a, b] ∧ FmsOwn (fun q => W.heap.size ≤ q) w' a x.test ∧ RxsOwn (fun q => W.heap.size ≤ q) w' b x.subs
theorem inFmQ : (Tryz.prog.info? 29).map (fun i => (i.zero, i.size, i.bytes)) = some (some (.agg #[.int .i64 0, .string ByteArray.empty, .int .i64 0, .slice none 0 0, .slice none 0 0, .int .i64 0, .int .i64 0, .bool false, .slice none 0 0, .slice none 0 0]), 10, 152) := by kernel_rfl
theorem inRxQ : (Tryz.prog.info? 91).map (fun i => (i.zero, i.size, i.bytes)) = some (some (.agg #[.int .i64 0, .slice none 0 0, .slice none 0 0]), 3, 56) := by kernel_rfl
set_option maxRecDepth 100000 in
set_option maxHeartbeats 8000000 in
theorem formulas_step (m R sz N : Nat) (d : Int) (pt : List (Tok Val) → Rd Fm) (hsh : Shr pt) (HT : ∀ (ts : List (Tok Val)) (W : World), ts.length ≤ N → RdAt m W R sz ts → Calls Tryz.prog 31 #[.pointer (some ⟨R, 0, none⟩), .int .i64 d] W (RdO m R sz W (FmV W) (pt ts))) (more : Bool) (n k : Nat) (ts : List (Tok Val)) (w : World) (hN : ts.length ≤ N) (hn : ts.length < n) (h : RdAt m w R sz ts) :
    Calls Tryz.prog 159 #[.pointer (some ⟨R, 0, none⟩), .int .i64 k, .bool more, .int .i64 d] w (RdO m R sz w (fun l v w' => FmsOwn (fun q => w.heap.size ≤ q) w' v l) (rMany pt more n k ts)) := by
  obtain ⟨i0, hi, hz0, hz1, hz2⟩ := info_parts inFmQ
  have hlt := h.lt
  have HT9 : Hid (∀ (ts : List (Tok Val)) (W : World), ts.length ≤ N → RdAt m W R sz ts → Calls Tryz.prog 31 #[.pointer (some ⟨R, 0, none⟩), .int .i64 d] W (RdO m R sz W (FmV W) (pt ts))) := HT
  have HSH : Hid (Shr pt) := hsh
  obtain ⟨RS, hRS⟩ : ∃ x : Rd (List Fm), Hid (rMany pt more n k ts = x) := ⟨_, rfl⟩
  rw [hRS.out]
  have A0 : Hid (RdAt m w R sz ts) := h
  have hmn := h.many
  clear h HT hsh
  go_enter Tryz.func159, Tryz.ntmps159
  go_wp2
  go_loopw [9] (fun v wr => ∃ (L : List (Fm × FQ)) (r : List (Tok Val)) (n' : Nat), Hid (rMany pt more n k ts = (rMany pt more n' (k - L.length) r).bind fun l r' => .ok (L.map Prod.fst ++ l) r') ∧ r.length < n' ∧ L.length + r.length ≤ ts.length ∧ Hid (RdAt m wr R sz r) ∧ Hid (Fr (fun k => k = R) w wr) ∧ Hid (wr.ownsRow w.heap.size 29 10 v L.length (flatF L)) ∧ Hid (∀ x ∈ L, QOwn (fun q => w.heap.size ≤ q ∧ v.ownBlock ≠ some q) wr x)) (fun _ wr => rdLen R wr)
  case atStart => exact ⟨[], ts, n, (Rd.bind_id _ _ (fun a => rfl)).symm, hn, by simp, A0, Fr.refl _ _, ⟨rfl, .inl ⟨rfl, rfl⟩⟩, fun x hx => by simp at hx⟩
  case round =>
    obtain ⟨L, r, n', hE, hr, hLr, hA, hF, hO, hS⟩ := hrel
    have HL := hA.out.len
    have hsz := hF.out.size
    obtain ⟨n2, rfl⟩ : ∃ n2, n' = n2 + 1 := ⟨n' - 1, by omega⟩
    have HK : Hid (∀ q, u9.ownBlock = some q → w.heap.size ≤ q) := fun q hq => (World.ownsRow.lt hO.out q hq).1
    have HKw : Hid (∀ q, u9.ownBlock = some q → q < wr.heap.size) := fun q hq => own_lt hO.out hq
    obtain ⟨p9, c9, rfl⟩ := row_form hO.out
    have cC : Hid (Calls Tryz.prog 152 #[.pointer (some ⟨R, 0, none⟩)] wr fun e w' => e = .returned (.bool (clos r)) ∧ w' = wr) := closes_any m R sz r wr hA.out
    have cT : Hid (Calls Tryz.prog 31 #[.pointer (some ⟨R, 0, none⟩), .int .i64 d] wr (RdO m R sz wr (FmV wr) (pt r))) := HT9.out r wr (by omega) hA.out
    by_cases hgo : 0 < k - L.length ∨ (more = true ∧ clos r = false)
    case neg =>
      have hG : Hid (RS = .ok (L.map Prod.fst) r) := by
        show _ = _
        rw [← hRS.out, hE.out, rMany_end hgo, Rd.bind_ok, List.append_nil]
      have hO9 : Hid (FmsOwn (fun q => w.heap.size ≤ q) wr (.slice p9 L.length c9) (L.map Prod.fst)) := by
        have ho := hO.out
        have hS2 : ∀ x ∈ L, QOwn (fun q => w.heap.size ≤ q) wr x := fun x hx => (hS.out x hx).mono fun q hq _ => hq.1
        refine .mk L rfl (by simp; omega) ?_ (fun q hq => (World.ownsRow.lt ho q hq).1) (fun x hx => (hS2 x hx).1) (fun x hx => (hS2 x hx).2.1) (fun x hx => (hS2 x hx).2.2.1) (fun x hx => (hS2 x hx).2.2.2)
        rw [List.length_map]
        exact own_monoB ho (Nat.zero_le _)
      have g1 : ¬ (L.length : Int) < (k : Int) := by omega
      clear hE cT HT9 hS hRS hO HL
      cases hm : more with
      | false =>
        subst hm
        go_wp2
        go_ret
        rw [hG.out]
        exact ⟨_, rfl, hO9.out, hA.out, hF.out⟩
      | true =>
        subst hm
        have hcl : clos r = true := by
          cases hc : clos r with
          | true => rfl
          | false => exact absurd (Or.inr ⟨rfl, hc⟩) hgo
        rw [hcl] at cC
        clear hgo hcl
        go_wp2_with fail
        refine cC.out.mono ?_
        rintro e w2 ⟨rfl, hw2⟩
        obtain rfl := hw2.symm
        clear cC
        go_wp2
        go_ret
        rw [hG.out]
        exact ⟨_, rfl, hO9.out, hA.out, hF.out⟩
    have hstep : Hid (rMany pt more (n2 + 1) (k - L.length) r = (pt r).bind fun a r => (rMany pt more n2 (k - L.length - 1) r).bind fun l r' => .ok (a :: l) r') := rMany_go hgo
    have hcases : (L.length : Int) < (k : Int) ∨ (¬ (L.length : Int) < (k : Int) ∧ more = true ∧ clos r = false) := by
      rcases hgo with h | h
      · exact Or.inl (by omega)
      · by_cases h2 : (L.length : Int) < (k : Int)
        · exact Or.inl h2
        · exact Or.inr ⟨h2, h⟩
    clear hgo
    cases hP : pt r with
    | bad er a =>
      rw [hP] at cT
      have hG : Hid (RS = .bad er a) := by
        show _ = _
        rw [← hRS.out, hE.out, hstep.out, hP, Rd.bind_bad, Rd.bind_bad]
      clear hE hstep hP hRS HT9 hS hO HL HSH
      rcases hcases with g1 | ⟨g1, hm, hcl⟩
      · clear cC
        go_wp2_with fail
        refine cT.out.mono ?_
        rintro e w3 ⟨rfl, hF3⟩
        refine ⟨rfl, ?_⟩
        rw [hG.out]
        exact ⟨rfl, hF.out.trans hF3 (fun k e => Or.inl e)⟩
      · subst hm
        rw [hcl] at cC
        clear hcl
        go_wp2_with fail
        refine cC.out.mono ?_
        rintro e w2 ⟨rfl, hw2⟩
        obtain rfl := hw2.symm
        clear cC
        go_wp2_with fail
        refine cT.out.mono ?_
        rintro e w3 ⟨rfl, hF3⟩
        refine ⟨rfl, ?_⟩
        rw [hG.out]
        exact ⟨rfl, hF.out.trans hF3 (fun k e => Or.inl e)⟩
    | ok tt r2 =>
      rw [hP] at cT
      have hsh2 := HSH.out r tt r2 hP
      have hE3 : Hid (∀ u : FQ, rMany pt more n k ts = (rMany pt more n2 (k - (L ++ [(tt, u)]).length) r2).bind fun l r' => .ok ((L ++ [(tt, u)]).map Prod.fst ++ l) r') := fun u => by
        rw [hE.out, hstep.out, hP, Rd.bind_ok, Rd.bind_assoc]
        have e : k - L.length - 1 = k - (L ++ [(tt, u)]).length := by simp; omega
        rw [e]
        simp only [Rd.bind_ok, List.map_append, List.map_cons, List.map_nil, List.append_assoc, List.cons_append, List.nil_append]
      clear hE hstep hP
      rcases hcases with g1 | ⟨g1, hm, hcl⟩
      · clear cC
        go_wp2_with fail
        refine cT.out.mono ?_
        rintro e w3 ⟨v3, rfl, ⟨q3, rfl, hQ3⟩, hA3, hF3⟩
        have HQ0 : Hid (QOwn (fun q => wr.heap.size ≤ q) w3 (tt, q3)) := hQ3
        obtain ⟨uv, ut, us, ur⟩ := q3
        obtain ⟨k1, k2, k3, k4⟩ := hQ3.at
        dsimp only at k1 k2 k3 k4
        obtain ⟨-, qv, dv, rfl, -⟩ := k1
        obtain ⟨qt, dt, rfl, -⟩ := k2.form
        obtain ⟨qs, ds, rfl, -⟩ := k3.form
        obtain ⟨qr, dr, rfl, -⟩ := k4.form
        clear k2 k3 k4 hQ3
        have F3 : Hid (Fr (fun k => k = R) w w3) := hF.out.trans hF3 (fun k e => Or.inl e)
        have A3 : Hid (RdAt m w3 R sz r2) := hA3
        have G3 : Hid (Fr (fun k => k = R) wr w3) := hF3
        have O3 : Hid (w3.ownsRow w.heap.size 29 10 (.slice p9 L.length c9) L.length (flatF L)) := hF3.row hO.out (fun k hk e => by have := HK.out k hk; omega)
        have hsz3 : wr.heap.size ≤ w3.heap.size := hF3.size
        have hcs : Hid (∀ q : FQ, flatF [(tt, q)] = [.int .i64 tt.k, .string tt.nm, .int .i64 tt.op, q.v, q.t, .int .i64 tt.lo, .int .i64 tt.hi, .bool tt.opn, q.s, q.r]) := fun q => rfl
        clear hF3 hA3 cT hF hA hO
        generalize tt.k = tk at *
        generalize tt.nm = nm at *
        generalize tt.op = top at *
        generalize tt.lo = lo at *
        generalize tt.hi = ihi at *
        generalize tt.opn = o at *
        generalize tt.vars.length = nv at *
        generalize tt.terms.length = nt at *
        generalize tt.subs.length = ns at *
        generalize tt.rgx.length = nr at *
        have HQ : Hid (QOwn (fun q => wr.heap.size ≤ q) w3 (tt, (⟨.slice qv nv dv, .slice qt nt dt, .slice qs ns ds, .slice qr nr dr⟩ : FQ))) := HQ0.out
        clear HQ0
        go_wp2_with (at_builtin; refine wpList_append_own_at _ rfl _ _ 26 rfl w.heap.size 29 i0 (.agg #[.int .i64 0, .string ByteArray.empty, .int .i64 0, .slice none 0 0, .slice none 0 0, .int .i64 0, .int .i64 0, .bool false, .slice none 0 0, .slice none 0 0]) 10 152 Tryz.underlying26 hi hz0 hz1 hz2 rfl (by decide) _ _ _ rfl (World.ownsRow.alloc O3.out _) ⟨w3.heap.size, 0, none⟩ 1 1 [.int .i64 tk, .string nm, .int .i64 top, .slice qv nv dv, .slice qt nt dt, .int .i64 lo, .int .i64 ihi, .bool o, .slice qs ns ds, .slice qr nr dr] rfl rfl ?cc1 ?cc2 ?cc3 ?cc4 ?cc5 ?_)
        case cc1 => (intro j u hj; rw [Addr.add_lit]; (rcases j with _ | _ | _ | _ | _ | _ | _ | _ | _ | _ | j) <;> simp at hj <;> subst hj <;> simp (maxDischargeDepth := 16) [go_sem])
        case cc2 => first | rfl | (intro u hu; simp at hu; rcases hu with rfl | rfl | rfl | rfl | rfl | rfl | rfl | rfl | rfl | rfl <;> rfl)
        case cc3 => unfold maxLen; omega
        case cc4 => omega
        case cc5 => first | omega | (simp; omega)
        intro v' w4 h2 h3 _ h5
        have O4 : Hid (w4.ownsRow w.heap.size 29 10 v' (L ++ [(tt, (⟨.slice qv nv dv, .slice qt nt dt, .slice qs ns ds, .slice qr nr dr⟩ : FQ))]).length (flatF (L ++ [(tt, (⟨.slice qv nv dv, .slice qt nt dt, .slice qs ns ds, .slice qr nr dr⟩ : FQ))]))) := by
          unfold Hid
          rw [flatF_append, hcs.out, List.length_append]
          exact h2
        have F4 : Hid (Fr (fun k => k = R) w w4) := (F3.out.alloc _).grown h3 (fun k e => Or.inr (HK.out k e))
        have A4 : Hid (RdAt m w4 R sz r2) := (A3.out.below ((Below.refl _ _).alloc (Nat.le_refl _) _)).fr (P := fun k => w.heap.size ≤ k) ((Fr.refl _ _).grown h3 (fun k e => Or.inl (HK.out k e))) (fun k e => by omega)
        have HL4 := A4.out.len
        have blk : Hid (∀ q, q < w3.heap.size → (Value.slice p9 L.length c9).ownBlock ≠ some q → w4.heap[q]? = w3.heap[q]?) := fun q hq hne => (h3.block q (by simp; omega) (fun h => hne h.symm)).trans (Below.heap_alloc _ _ q hq)
        have h50 : v'.ownBlock = (Value.slice p9 L.length c9).ownBlock ∨ v'.ownBlock = some (w3.heap.size + 1) := by simpa using h5
        have h5' : Hid (v'.ownBlock = (Value.slice p9 L.length c9).ownBlock ∨ v'.ownBlock = some (w3.heap.size + 1)) := h50
        have S4 : Hid (∀ x ∈ L ++ [(tt, (⟨.slice qv nv dv, .slice qt nt dt, .slice qs ns ds, .slice qr nr dr⟩ : FQ))], QOwn (fun q => w.heap.size ≤ q ∧ v'.ownBlock ≠ some q) w4 x) := fun x hx => by
          rcases List.mem_append.1 hx with hx | hx
          · have b := hS.out x hx
            refine ((b.mono (P' := fun q => (w.heap.size ≤ q ∧ (Value.slice p9 L.length c9).ownBlock ≠ some q) ∧ q < wr.heap.size) fun q h1 h2 => ⟨h1, h2⟩).keep (w' := w4) fun q h1 h2 => ?_).mono fun q h1 _ => ⟨h1.1.1, ?_⟩
            · exact (blk.out q (by omega) h1.1.2).trans (G3.out.block q h1.2 (fun e => by omega))
            · rcases h5'.out with h5 | h5
              · rw [h5]; exact h1.1.2
              · rw [h5]; intro h; injection h with h; omega
          · simp only [List.mem_singleton] at hx
            subst hx
            refine ((HQ.out.mono (P' := fun q => wr.heap.size ≤ q ∧ q < w3.heap.size) fun q h1 h2 => ⟨h1, h2⟩).keep (w' := w4) fun q h1 h2 => ?_).mono fun q h1 _ => ⟨by omega, ?_⟩
            · exact blk.out q h2 (fun h => by have := HKw.out q h; omega)
            · rcases h5'.out with h5 | h5
              · rw [h5]; intro h; have := HKw.out q h; omega
              · rw [h5]; intro h; injection h with h; omega
        clear h2 h3 h5 h50 HK O3 hS blk HQ h5' HKw hcs HT9
        go_wp2
        exact ⟨⟨L ++ [(tt, (⟨.slice qv nv dv, .slice qt nt dt, .slice qs ns ds, .slice qr nr dr⟩ : FQ))], r2, n2, hE3.out _, by omega, by simp; omega, A4, F4, O4, S4⟩, by omega⟩
      · subst hm
        rw [hcl] at cC
        clear hcl
        go_wp2_with fail
        refine cC.out.mono ?_
        rintro e w2 ⟨rfl, hw2⟩
        obtain rfl := hw2.symm
        clear cC
        go_wp2_with fail
        refine cT.out.mono ?_
        rintro e w3 ⟨v3, rfl, ⟨q3, rfl, hQ3⟩, hA3, hF3⟩
        have HQ0 : Hid (QOwn (fun q => wr.heap.size ≤ q) w3 (tt, q3)) := hQ3
        obtain ⟨uv, ut, us, ur⟩ := q3
        obtain ⟨k1, k2, k3, k4⟩ := hQ3.at
        dsimp only at k1 k2 k3 k4
        obtain ⟨-, qv, dv, rfl, -⟩ := k1
        obtain ⟨qt, dt, rfl, -⟩ := k2.form
        obtain ⟨qs, ds, rfl, -⟩ := k3.form
        obtain ⟨qr, dr, rfl, -⟩ := k4.form
        clear k2 k3 k4 hQ3
        have F3 : Hid (Fr (fun k => k = R) w w3) := hF.out.trans hF3 (fun k e => Or.inl e)
        have A3 : Hid (RdAt m w3 R sz r2) := hA3
        have G3 : Hid (Fr (fun k => k = R) wr w3) := hF3
        have O3 : Hid (w3.ownsRow w.heap.size 29 10 (.slice p9 L.length c9) L.length (flatF L)) := hF3.row hO.out (fun k hk e => by have := HK.out k hk; omega)
        have hsz3 : wr.heap.size ≤ w3.heap.size := hF3.size
        have hcs : Hid (∀ q : FQ, flatF [(tt, q)] = [.int .i64 tt.k, .string tt.nm, .int .i64 tt.op, q.v, q.t, .int .i64 tt.lo, .int .i64 tt.hi, .bool tt.opn, q.s, q.r]) := fun q => rfl
        clear hF3 hA3 cT hF hA hO
        generalize tt.k = tk at *
        generalize tt.nm = nm at *
        generalize tt.op = top at *
        generalize tt.lo = lo at *
        generalize tt.hi = ihi at *
        generalize tt.opn = o at *
        generalize tt.vars.length = nv at *
        generalize tt.terms.length = nt at *
        generalize tt.subs.length = ns at *
        generalize tt.rgx.length = nr at *
        have HQ : Hid (QOwn (fun q => wr.heap.size ≤ q) w3 (tt, (⟨.slice qv nv dv, .slice qt nt dt, .slice qs ns ds, .slice qr nr dr⟩ : FQ))) := HQ0.out
        clear HQ0
        go_wp2_with (at_builtin; refine wpList_append_own_at _ rfl _ _ 26 rfl w.heap.size 29 i0 (.agg #[.int .i64 0, .string ByteArray.empty, .int .i64 0, .slice none 0 0, .slice none 0 0, .int .i64 0, .int .i64 0, .bool false, .slice none 0 0, .slice none 0 0]) 10 152 Tryz.underlying26 hi hz0 hz1 hz2 rfl (by decide) _ _ _ rfl (World.ownsRow.alloc O3.out _) ⟨w3.heap.size, 0, none⟩ 1 1 [.int .i64 tk, .string nm, .int .i64 top, .slice qv nv dv, .slice qt nt dt, .int .i64 lo, .int .i64 ihi, .bool o, .slice qs ns ds, .slice qr nr dr] rfl rfl ?cc1 ?cc2 ?cc3 ?cc4 ?cc5 ?_)
        case cc1 => (intro j u hj; rw [Addr.add_lit]; (rcases j with _ | _ | _ | _ | _ | _ | _ | _ | _ | _ | j) <;> simp at hj <;> subst hj <;> simp (maxDischargeDepth := 16) [go_sem])
        case cc2 => first | rfl | (intro u hu; simp at hu; rcases hu with rfl | rfl | rfl | rfl | rfl | rfl | rfl | rfl | rfl | rfl <;> rfl)
        case cc3 => unfold maxLen; omega
        case cc4 => omega
        case cc5 => first | omega | (simp; omega)
        intro v' w4 h2 h3 _ h5
        have O4 : Hid (w4.ownsRow w.heap.size 29 10 v' (L ++ [(tt, (⟨.slice qv nv dv, .slice qt nt dt, .slice qs ns ds, .slice qr nr dr⟩ : FQ))]).length (flatF (L ++ [(tt, (⟨.slice qv nv dv, .slice qt nt dt, .slice qs ns ds, .slice qr nr dr⟩ : FQ))]))) := by
          unfold Hid
          rw [flatF_append, hcs.out, List.length_append]
          exact h2
        have F4 : Hid (Fr (fun k => k = R) w w4) := (F3.out.alloc _).grown h3 (fun k e => Or.inr (HK.out k e))
        have A4 : Hid (RdAt m w4 R sz r2) := (A3.out.below ((Below.refl _ _).alloc (Nat.le_refl _) _)).fr (P := fun k => w.heap.size ≤ k) ((Fr.refl _ _).grown h3 (fun k e => Or.inl (HK.out k e))) (fun k e => by omega)
        have HL4 := A4.out.len
        have blk : Hid (∀ q, q < w3.heap.size → (Value.slice p9 L.length c9).ownBlock ≠ some q → w4.heap[q]? = w3.heap[q]?) := fun q hq hne => (h3.block q (by simp; omega) (fun h => hne h.symm)).trans (Below.heap_alloc _ _ q hq)
        have h50 : v'.ownBlock = (Value.slice p9 L.length c9).ownBlock ∨ v'.ownBlock = some (w3.heap.size + 1) := by simpa using h5
        have h5' : Hid (v'.ownBlock = (Value.slice p9 L.length c9).ownBlock ∨ v'.ownBlock = some (w3.heap.size + 1)) := h50
        have S4 : Hid (∀ x ∈ L ++ [(tt, (⟨.slice qv nv dv, .slice qt nt dt, .slice qs ns ds, .slice qr nr dr⟩ : FQ))], QOwn (fun q => w.heap.size ≤ q ∧ v'.ownBlock ≠ some q) w4 x) := fun x hx => by
          rcases List.mem_append.1 hx with hx | hx
          · have b := hS.out x hx
            refine ((b.mono (P' := fun q => (w.heap.size ≤ q ∧ (Value.slice p9 L.length c9).ownBlock ≠ some q) ∧ q < wr.heap.size) fun q h1 h2 => ⟨h1, h2⟩).keep (w' := w4) fun q h1 h2 => ?_).mono fun q h1 _ => ⟨h1.1.1, ?_⟩
            · exact (blk.out q (by omega) h1.1.2).trans (G3.out.block q h1.2 (fun e => by omega))
            · rcases h5'.out with h5 | h5
              · rw [h5]; exact h1.1.2
              · rw [h5]; intro h; injection h with h; omega
          · simp only [List.mem_singleton] at hx
            subst hx
            refine ((HQ.out.mono (P' := fun q => wr.heap.size ≤ q ∧ q < w3.heap.size) fun q h1 h2 => ⟨h1, h2⟩).keep (w' := w4) fun q h1 h2 => ?_).mono fun q h1 _ => ⟨by omega, ?_⟩
            · exact blk.out q h2 (fun h => by have := HKw.out q h; omega)
            · rcases h5'.out with h5 | h5
              · rw [h5]; intro h; have := HKw.out q h; omega
              · rw [h5]; intro h; injection h with h; omega
        clear h2 h3 h5 h50 HK O3 hS blk HQ h5' HKw hcs HT9
        go_wp2
        exact ⟨⟨L ++ [(tt, (⟨.slice qv nv dv, .slice qt nt dt, .slice qs ns ds, .slice qr nr dr⟩ : FQ))], r2, n2, hE3.out _, by omega, by simp; omega, A4, F4, O4, S4⟩, by omega⟩
end Go.Proofs.YticnfeolbfmgfaaGreatDoor

namespace Go.Proofs.YticnfeolbfmgfaaGreatDoor
open Go.RowKit LX Go.Shelf
set_option linter.unusedVariables false

set_option maxRecDepth 100000 in
set_option maxHeartbeats 8000000 in
theorem regexes_step (m R sz N : Nat) (d : Int) (pt : List (Tok Val) → Rd Rx) (hsh : Shr pt) (HT : ∀ (ts : List (Tok Val)) (W : World), ts.length ≤ N → RdAt m W R sz ts → Calls Tryz.prog 188 #[.pointer (some ⟨R, 0, none⟩), .int .i64 d] W (RdO m R sz W (RxV W) (pt ts))) (n k : Nat) (ts : List (Tok Val)) (w : World) (hN : ts.length ≤ N) (hn : ts.length < n) (h : RdAt m w R sz ts) :
    Calls Tryz.prog 158 #[.pointer (some ⟨R, 0, none⟩), .int .i64 k, .int .i64 d] w (RdO m R sz w (fun l v w' => RxsOwn (fun q => w.heap.size ≤ q) w' v l) (rMany pt false n k ts)) := by
  obtain ⟨i0, hi, hz0, hz1, hz2⟩ := info_parts inRxQ
  have hlt := h.lt
  have HT9 : Hid (∀ (ts : List (Tok Val)) (W : World), ts.length ≤ N → RdAt m W R sz ts → Calls Tryz.prog 188 #[.pointer (some ⟨R, 0, none⟩), .int .i64 d] W (RdO m R sz W (RxV W) (pt ts))) := HT
  have HSH : Hid (Shr pt) := hsh
  obtain ⟨RS, hRS⟩ : ∃ x : Rd (List Rx), Hid (rMany pt false n k ts = x) := ⟨_, rfl⟩
  rw [hRS.out]
  have A0 : Hid (RdAt m w R sz ts) := h
  have hmn := h.many
  clear h HT hsh
  go_enter Tryz.func158, Tryz.ntmps158
  go_wp2
  go_loopw [7, 9] (fun v c wr => ∃ (L : List (Rx × (Value × Value))) (r : List (Tok Val)) (n' : Nat), c = .int .i64 (L.length : Nat) ∧ L.length ≤ k ∧ Hid (rMany pt false n k ts = (rMany pt false n' (k - L.length) r).bind fun l r' => .ok (L.map Prod.fst ++ l) r') ∧ r.length < n' ∧ L.length + r.length ≤ ts.length ∧ Hid (RdAt m wr R sz r) ∧ Hid (Fr (fun k => k = R) w wr) ∧ Hid (wr.ownsRow w.heap.size 91 3 v L.length (flatR L)) ∧ Hid (∀ x ∈ L, FmsOwn (fun q => w.heap.size ≤ q ∧ v.ownBlock ≠ some q) wr x.2.1 x.1.test ∧ RxsOwn (fun q => w.heap.size ≤ q ∧ v.ownBlock ≠ some q) wr x.2.2 x.1.subs)) (fun _ _ wr => rdLen R wr)
  case atStart => exact ⟨[], ts, n, rfl, by simp, (Rd.bind_id _ _ (fun a => rfl)).symm, hn, by simp, A0, Fr.refl _ _, ⟨rfl, .inl ⟨rfl, rfl⟩⟩, fun x hx => by simp at hx⟩
  case round =>
    obtain ⟨L, r, n', rfl, hLk, hE, hr, hLr, hA, hF, hO, hS⟩ := hrel
    have HL := hA.out.len
    have hsz := hF.out.size
    obtain ⟨n2, rfl⟩ : ∃ n2, n' = n2 + 1 := ⟨n' - 1, by omega⟩
    have HK : Hid (∀ q, u7.ownBlock = some q → w.heap.size ≤ q) := fun q hq => (World.ownsRow.lt hO.out q hq).1
    have HKw : Hid (∀ q, u7.ownBlock = some q → q < wr.heap.size) := fun q hq => own_lt hO.out hq
    obtain ⟨p9, c9, rfl⟩ := row_form hO.out
    have cT : Hid (Calls Tryz.prog 188 #[.pointer (some ⟨R, 0, none⟩), .int .i64 d] wr (RdO m R sz wr (RxV wr) (pt r))) := HT9.out r wr (by omega) hA.out
    by_cases hgo : L.length < k
    case neg =>
      have hG : Hid (RS = .ok (L.map Prod.fst) r) := by
        show _ = _
        rw [← hRS.out, hE.out, rMany_end (by simp; omega), Rd.bind_ok, List.append_nil]
      have hO9 : Hid (RxsOwn (fun q => w.heap.size ≤ q) wr (.slice p9 L.length c9) (L.map Prod.fst)) := by
        have ho := hO.out
        refine .mk L rfl (by simp; omega) ?_ (fun q hq => (World.ownsRow.lt ho q hq).1) (fun x hx => (hS.out x hx).1.mono fun q hq _ => hq.1) (fun x hx => (hS.out x hx).2.mono fun q hq _ => hq.1)
        rw [List.length_map]
        exact own_monoB ho (Nat.zero_le _)
      have g1 : ¬ (L.length : Int) < (k : Int) := by omega
      clear hE cT HT9 hS hRS hO HL
      go_wp2
      go_ret
      rw [hG.out]
      exact ⟨_, rfl, hO9.out, hA.out, hF.out⟩
    have g1 : (L.length : Int) < (k : Int) := by omega
    have hstep : Hid (rMany pt false (n2 + 1) (k - L.length) r = (pt r).bind fun a r => (rMany pt false n2 (k - L.length - 1) r).bind fun l r' => .ok (a :: l) r') := rMany_go (Or.inl (by omega))
    cases hP : pt r with
    | bad er a =>
      rw [hP] at cT
      have hG : Hid (RS = .bad er a) := by
        show _ = _
        rw [← hRS.out, hE.out, hstep.out, hP, Rd.bind_bad, Rd.bind_bad]
      clear hE hstep hP hRS HT9 hS hO HL HSH
      go_wp2_with fail
      refine cT.out.mono ?_
      rintro e w3 ⟨rfl, hF3⟩
      refine ⟨rfl, ?_⟩
      rw [hG.out]
      exact ⟨rfl, hF.out.trans hF3 (fun k e => Or.inl e)⟩
    | ok tt r2 =>
      rw [hP] at cT
      have hsh2 := HSH.out r tt r2 hP
      have hE3 : Hid (∀ u : Value × Value, rMany pt false n k ts = (rMany pt false n2 (k - (L ++ [(tt, u)]).length) r2).bind fun l r' => .ok ((L ++ [(tt, u)]).map Prod.fst ++ l) r') := fun u => by
        rw [hE.out, hstep.out, hP, Rd.bind_ok, Rd.bind_assoc]
        have e : k - L.length - 1 = k - (L ++ [(tt, u)]).length := by simp; omega
        rw [e]
        simp only [Rd.bind_ok, List.map_append, List.map_cons, List.map_nil, List.append_assoc, List.cons_append, List.nil_append]
      clear hE hstep hP
      go_wp2_with fail
      refine cT.out.mono ?_
      rintro e w3 ⟨v3, rfl, ⟨ua, ub, rfl, hQa, hQb⟩, hA3, hF3⟩
      have HQa : Hid (FmsOwn (fun q => wr.heap.size ≤ q) w3 ua tt.test) := hQa
      have HQb : Hid (RxsOwn (fun q => wr.heap.size ≤ q) w3 ub tt.subs) := hQb
      obtain ⟨pa, ca, rfl, -⟩ := hQa.at.form
      obtain ⟨pb, cb, rfl, -⟩ := hQb.at.form
      clear hQa hQb
      have F3 : Hid (Fr (fun k => k = R) w w3) := hF.out.trans hF3 (fun k e => Or.inl e)
      have A3 : Hid (RdAt m w3 R sz r2) := hA3
      have G3 : Hid (Fr (fun k => k = R) wr w3) := hF3
      have O3 : Hid (w3.ownsRow w.heap.size 91 3 (.slice p9 L.length c9) L.length (flatR L)) := hF3.row hO.out (fun k hk e => by have := HK.out k hk; omega)
      have hsz3 : wr.heap.size ≤ w3.heap.size := hF3.size
      have hcs : Hid (∀ q : Value × Value, flatR [(tt, q)] = [.int .i64 tt.k, q.1, q.2]) := fun q => rfl
      clear hF3 hA3 cT hF hA hO
      generalize tt.k = tk at *
      generalize tt.test.length = na at *
      generalize tt.subs.length = nb at *
      go_wp2_with (at_builtin; refine wpList_append_own_at _ rfl _ _ 27 rfl w.heap.size 91 i0 (.agg #[.int .i64 0, .slice none 0 0, .slice none 0 0]) 3 56 Tryz.underlying27 hi hz0 hz1 hz2 rfl (by decide) _ _ _ rfl (World.ownsRow.alloc O3.out _) ⟨w3.heap.size, 0, none⟩ 1 1 [.int .i64 tk, .slice pa na ca, .slice pb nb cb] rfl rfl ?cc1 ?cc2 ?cc3 ?cc4 ?cc5 ?_)
      case cc1 => (intro j u hj; rw [Addr.add_lit]; (rcases j with _ | _ | _ | j) <;> simp at hj <;> subst hj <;> simp (maxDischargeDepth := 16) [go_sem])
      case cc2 => first | rfl | (intro u hu; simp at hu; rcases hu with rfl | rfl | rfl <;> rfl)
      case cc3 => unfold maxLen; omega
      case cc4 => omega
      case cc5 => first | omega | (simp; omega)
      intro v' w4 h2 h3 _ h5
      have O4 : Hid (w4.ownsRow w.heap.size 91 3 v' (L ++ [(tt, (Value.slice pa na ca, Value.slice pb nb cb))]).length (flatR (L ++ [(tt, (Value.slice pa na ca, Value.slice pb nb cb))]))) := by
        unfold Hid
        rw [flatR_append, hcs.out, List.length_append]
        exact h2
      have F4 : Hid (Fr (fun k => k = R) w w4) := (F3.out.alloc _).grown h3 (fun k e => Or.inr (HK.out k e))
      have A4 : Hid (RdAt m w4 R sz r2) := (A3.out.below ((Below.refl _ _).alloc (Nat.le_refl _) _)).fr (P := fun k => w.heap.size ≤ k) ((Fr.refl _ _).grown h3 (fun k e => Or.inl (HK.out k e))) (fun k e => by omega)
      have HL4 := A4.out.len
      have blk : Hid (∀ q, q < w3.heap.size → (Value.slice p9 L.length c9).ownBlock ≠ some q → w4.heap[q]? = w3.heap[q]?) := fun q hq hne => (h3.block q (by simp; omega) (fun h => hne h.symm)).trans (Below.heap_alloc _ _ q hq)
      have h50 : v'.ownBlock = (Value.slice p9 L.length c9).ownBlock ∨ v'.ownBlock = some (w3.heap.size + 1) := by simpa using h5
      have h5' : Hid (v'.ownBlock = (Value.slice p9 L.length c9).ownBlock ∨ v'.ownBlock = some (w3.heap.size + 1)) := h50
      have K1 : Hid (∀ q, ((w.heap.size ≤ q ∧ (Value.slice p9 L.length c9).ownBlock ≠ some q) ∧ q < wr.heap.size) → w4.heap[q]? = wr.heap[q]?) := fun q h1 => (blk.out q (by omega) h1.1.2).trans (G3.out.block q h1.2 (fun e => by omega))
      have K2 : Hid (∀ q, ((w.heap.size ≤ q ∧ (Value.slice p9 L.length c9).ownBlock ≠ some q) ∧ q < wr.heap.size) → w.heap.size ≤ q ∧ v'.ownBlock ≠ some q) := fun q h1 => ⟨h1.1.1, by
        rcases h5'.out with h5 | h5
        · rw [h5]; exact h1.1.2
        · rw [h5]; intro h; injection h with h; omega⟩
      have K3 : Hid (∀ q, (wr.heap.size ≤ q ∧ q < w3.heap.size) → w4.heap[q]? = w3.heap[q]?) := fun q h1 => blk.out q h1.2 (fun h => by have := HKw.out q h; omega)
      have K4 : Hid (∀ q, (wr.heap.size ≤ q ∧ q < w3.heap.size) → w.heap.size ≤ q ∧ v'.ownBlock ≠ some q) := fun q h1 => ⟨by omega, by
        rcases h5'.out with h5 | h5
        · rw [h5]; intro h; have := HKw.out q h; omega
        · rw [h5]; intro h; injection h with h; omega⟩
      have S4 : Hid (∀ x ∈ L ++ [(tt, (Value.slice pa na ca, Value.slice pb nb cb))], FmsOwn (fun q => w.heap.size ≤ q ∧ v'.ownBlock ≠ some q) w4 x.2.1 x.1.test ∧ RxsOwn (fun q => w.heap.size ≤ q ∧ v'.ownBlock ≠ some q) w4 x.2.2 x.1.subs) := fun x hx => by
        rcases List.mem_append.1 hx with hx | hx
        · obtain ⟨a, b⟩ := hS.out x hx
          exact ⟨((a.mono (P' := fun q => (w.heap.size ≤ q ∧ (Value.slice p9 L.length c9).ownBlock ≠ some q) ∧ q < wr.heap.size) fun q h1 h2 => ⟨h1, h2⟩).keep (w' := w4) fun q h1 h2 => K1.out q h1).mono fun q h1 _ => K2.out q h1, ((b.mono (P' := fun q => (w.heap.size ≤ q ∧ (Value.slice p9 L.length c9).ownBlock ≠ some q) ∧ q < wr.heap.size) fun q h1 h2 => ⟨h1, h2⟩).keep (w' := w4) fun q h1 h2 => K1.out q h1).mono fun q h1 _ => K2.out q h1⟩
        · simp only [List.mem_singleton] at hx
          subst hx
          exact ⟨((HQa.out.mono (P' := fun q => wr.heap.size ≤ q ∧ q < w3.heap.size) fun q h1 h2 => ⟨h1, h2⟩).keep (w' := w4) fun q h1 h2 => K3.out q h1).mono fun q h1 _ => K4.out q h1, ((HQb.out.mono (P' := fun q => wr.heap.size ≤ q ∧ q < w3.heap.size) fun q h1 h2 => ⟨h1, h2⟩).keep (w' := w4) fun q h1 h2 => K3.out q h1).mono fun q h1 _ => K4.out q h1⟩
      clear h2 h3 h5 h50 HK O3 hS blk HQa HQb h5' HKw hcs HT9 K1 K2 K3 K4
      go_wp2
      exact ⟨⟨L ++ [(tt, (Value.slice pa na ca, Value.slice pb nb cb))], r2, n2, (by first | rfl | (simp; done) | go_num | (simp; go_num)), (by rw [List.length_append, List.length_singleton]; omega), hE3.out _, by omega, (by rw [List.length_append, List.length_singleton]; omega), A4, F4, O4, S4⟩, by omega⟩
end Go.Proofs.YticnfeolbfmgfaaGreatDoor
