/- Texts there and back, plainly; the law's own same at any two values. -/
import Derived.Test.YtedoahibceeklabGreatDoorVParse3
namespace Go.Proofs.YtedoahibceeklabGreatDoor
open Go.RowKit Go.Shelf
set_option linter.unusedVariables false

theorem empty_of {s : ByteArray} (h : s.toList = []) : s = ⟨#[]⟩ := by
  rw [toList_data] at h
  exact ba_eq h
theorem pure_of {v : Val} (h : v.may = 0) : pureB v.k v.n v.d v.s = true := by
  unfold Val.may chk at h
  split at h
  · omega
  · rename_i g
    simpa using g
theorem pref_itoa (n : Int) (r : List UInt8) : Lib.hasPrefix (Lib.itoa n ++ r) [34] = false := by
  obtain ⟨c, q, e⟩ := List.exists_cons_of_ne_nil (itoa_ne n)
  have hc := itoa_no (n := n) (c := c) (by rw [e]; simp)
  rw [e]
  simp only [Lib.hasPrefix, List.cons_append, List.isPrefixOf]
  have : (34 == c) = false := by simp; intro g; rw [← g] at hc; revert hc; decide
  simp [this]
theorem itoa_cut (n : Int) : ∀ c ∈ Lib.itoa n, c.toNat ≠ 47 := fun c hc => by have := itoa_no hc; omega
theorem suff_quote (l : List UInt8) : Lib.hasSuffix (l ++ [34]) [34] = true ∧ Lib.trimSuffix (l ++ [34]) [34] = l := by
  have h1 : Lib.hasSuffix (l ++ [34]) [34] = true := by
    unfold Lib.hasSuffix
    rw [List.isSuffixOf_iff_suffix]
    exact List.suffix_append _ _
  refine ⟨h1, ?_⟩
  unfold Lib.trimSuffix
  rw [if_pos h1]
  simp

/-- A value's text is taken for it. -/
theorem gss_text {v : Val} (h : v.may = 0) (f : v.Fits) : gss (vtext v.k v.n v.d v.s) = (v, true) := by
  obtain ⟨k, n, dd, s⟩ := v
  rcases Val.cases h with ⟨a, p, q⟩ | ⟨a, p, q⟩ | ⟨a, p, q⟩
  · dsimp only at a p q ⊢
    subst a p
    rw [empty_of q]
    have e0 : vtext 1 n 0 ⟨#[]⟩ = Lib.itoa n := by simp [vtext]
    have e1 := pref_itoa n []
    rw [List.append_nil] at e1
    rw [e0]
    unfold gss
    rw [e1, cutL_none _ (itoa_cut n), pint_of f.n1 f.n2]
    rfl
  · dsimp only at a p q ⊢
    subst a
    rw [empty_of q]
    have e0 : vtext 2 n dd ⟨#[]⟩ = Lib.itoa n ++ 47 :: Lib.itoa dd := by simp [vtext]
    rw [e0]
    unfold gss
    rw [pref_itoa, cutL_some _ _ (itoa_cut n)]
    simp only [Bool.false_eq_true, if_false, Bool.true_eq_false]
    rw [pint_of f.n1 f.n2, pint_of f.d1 f.d2]
    rfl
  · dsimp only at a p q ⊢
    subst a p q
    have e0 : vtext 3 0 0 s = 34 :: (inside s.data.toList ++ [34]) := by simp [vtext, quoted]
    rw [e0]
    unfold gss
    have e1 : Lib.hasPrefix (34 :: (inside s.data.toList ++ [34])) [34] = true := by simp [Lib.hasPrefix, List.isPrefixOf]
    obtain ⟨e2, e3⟩ := suff_quote (inside s.data.toList)
    rw [e1]
    simp only [if_true, List.drop_succ_cons, List.drop_zero]
    unfold unqS
    rw [e2, e3]
    simp only [if_true]
    rw [unq_inside]
    rfl
theorem prs_text {v : Val} (h : v.may = 0) (f : v.Fits) : prs (vtext v.k v.n v.d v.s) = (v, 0) := by
  have hp := pure_of h
  unfold Val.may at h
  unfold prs
  rw [gss_text h f]
  dsimp only
  rw [if_pos ⟨rfl, hp, rfl⟩, if_pos h]
theorem text_inj {a b : Val} (ha : a.may = 0) (hb : b.may = 0) (fa : a.Fits) (fb : b.Fits) : (vtext a.k a.n a.d a.s = vtext b.k b.n b.d b.s) ↔ sameB a.k a.n a.d a.s b.k b.n b.d b.s = true := by
  constructor
  · intro h
    have h1 := gss_text ha fa
    rw [h, gss_text hb fb] at h1
    have h2 : b = a := (Prod.mk.inj h1).1
    rw [h2]
    simp [sameB]
  · intro h
    simp [sameB] at h
    obtain ⟨h1, h2, h3, h4⟩ := h
    rw [h1, h2, h3]
    rw [toList_data, toList_data] at h4
    unfold vtext
    rw [h4]
theorem prs_fits (l : List UInt8) : (prs l).1.Fits := by
  unfold prs
  split
  · split
    · exact gss_fits l
    · exact ⟨by simp, by simp, by simp, by simp⟩
  · exact ⟨by simp, by simp, by simp, by simp⟩
/-- What is read has just this text. -/
theorem prs_back {l : List UInt8} (h : (prs l).2 = 0) : (prs l).1.may = 0 ∧ vtext (prs l).1.k (prs l).1.n (prs l).1.d (prs l).1.s = l := by
  unfold prs at h ⊢
  split at h
  · rename_i g
    rw [if_pos g]
    split at h
    · rename_i c
      rw [if_pos c]
      exact ⟨c, g.2.2⟩
    · rename_i c
      exact absurd h c
  · cases h
theorem text_len {v : Val} (h : v.may = 0) (f : v.Fits) : (vtext v.k v.n v.d v.s).length ≤ 300 := by
  have h1 := Lib.itoa_length_le v.n f.n1 f.n2
  have h2 := Lib.itoa_length_le v.d f.d1 f.d2
  have h3 := inside_len v.s.data.toList
  have h4 := chk_size h
  have h5 : v.s.data.toList.length = v.s.size := by simp
  unfold vtext
  split
  · omega
  · split
    · simp; omega
    · simp [quoted]; omega

set_option maxRecDepth 100000 in
set_option maxHeartbeats 1000000 in
theorem lsame_any (k n d : Int) (s : ByteArray) (k' n' d' : Int) (s' : ByteArray) (w : World) :
    Calls Tryz.prog 18 #[.agg #[.int .i64 k, .int .i64 n, .int .i64 d, .string s], .agg #[.int .i64 k', .int .i64 n', .int .i64 d', .string s']] w fun e w' => e = .returned (.bool (sameB k n d s k' n' d' s')) ∧ Below w.heap.size w w' := by
  by_cases hk : k = k'
  · subst hk
    by_cases hn : n = n'
    · subst hn
      by_cases hd : d = d'
      · subst hd
        go_enter Tryz.func18, Tryz.ntmps18
        go_wp2
        go_ret
        exact ⟨ret_bool (by simp [sameB]), by go_grown⟩
      · have e1 : (d == d') = false := by simpa using hd
        go_enter Tryz.func18, Tryz.ntmps18
        go_wp2
        go_ret
        exact ⟨ret_bool (by simp [sameB, hd]), by go_grown⟩
    · have e1 : (n == n') = false := by simpa using hn
      go_enter Tryz.func18, Tryz.ntmps18
      go_wp2
      go_ret
      exact ⟨ret_bool (by simp [sameB, hn]), by go_grown⟩
  · have e1 : (k == k') = false := by simpa using hk
    go_enter Tryz.func18, Tryz.ntmps18
    go_wp2
    go_ret
    exact ⟨ret_bool (by simp [sameB, hk]), by go_grown⟩


end Go.Proofs.YtedoahibceeklabGreatDoor
