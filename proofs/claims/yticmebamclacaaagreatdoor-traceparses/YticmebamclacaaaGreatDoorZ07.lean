/- The document's unquoted. -/
import Derived.Test.YticmebamclacaaaGreatDoorZ04
import Derived.Test.YticmebamclacaaaGreatDoorZ05
import Derived.Test.YticmebamclacaaaGreatDoorZ06
import Derived.Test.YticmebamclacaaaGreatDoorZ03

namespace Go.Proofs.YticmebamclacaaaGreatDoor
open Go.RowKit Go.Shelf
set_option linter.unusedVariables false

theorem empty_of {s : ByteArray} (h : s.toList = []) : s = ⟨#[]⟩ := by
  rw [toList_data] at h
  exact ba_eq h
theorem pure_of {v : Val} (h : v.may = 0) : pureB v.k v.n v.d v.s = true := by
  unfold Val.may chk at h
  split at h
  · omega
  · rename_i g
    simpa using g
theorem pref_itoa (n : Int) (r : List UInt8) : Lib.hasPrefix (Lib.itoa n ++ r) [34] = false := by
  obtain ⟨c, q, e⟩ := List.exists_cons_of_ne_nil (itoa_ne n)
  have hc := itoa_no (n := n) (c := c) (by rw [e]; simp)
  rw [e]
  simp only [Lib.hasPrefix, List.cons_append, List.isPrefixOf]
  have : (34 == c) = false := by simp; intro g; rw [← g] at hc; revert hc; decide
  simp [this]
theorem itoa_cut (n : Int) : ∀ c ∈ Lib.itoa n, c.toNat ≠ 47 := fun c hc => by have := itoa_no hc; omega
theorem suff_quote (l : List UInt8) : Lib.hasSuffix (l ++ [34]) [34] = true ∧ Lib.trimSuffix (l ++ [34]) [34] = l := by
  have h1 : Lib.hasSuffix (l ++ [34]) [34] = true := by
    unfold Lib.hasSuffix
    rw [List.isSuffixOf_iff_suffix]
    exact List.suffix_append _ _
  refine ⟨h1, ?_⟩
  unfold Lib.trimSuffix
  rw [if_pos h1]
  simp

/-- A value's text is taken for it. -/
theorem gss_text {v : Val} (h : v.may = 0) (f : v.Fits) : gss (vtext v.k v.n v.d v.s) = (v, true) := by
  obtain ⟨k, n, dd, s⟩ := v
  rcases Val.cases h with ⟨a, p, q⟩ | ⟨a, p, q⟩ | ⟨a, p, q⟩
  · dsimp only at a p q ⊢
    subst a p
    rw [empty_of q]
    have e0 : vtext 1 n 0 ⟨#[]⟩ = Lib.itoa n := by simp [vtext]
    have e1 := pref_itoa n []
    rw [List.append_nil] at e1
    rw [e0]
    unfold gss
    rw [e1, cutL_none _ (itoa_cut n), pint_of f.n1 f.n2]
    rfl
  · dsimp only at a p q ⊢
    subst a
    rw [empty_of q]
    have e0 : vtext 2 n dd ⟨#[]⟩ = Lib.itoa n ++ 47 :: Lib.itoa dd := by simp [vtext]
    rw [e0]
    unfold gss
    rw [pref_itoa, cutL_some _ _ (itoa_cut n)]
    simp only [Bool.false_eq_true, if_false, Bool.true_eq_false]
    rw [pint_of f.n1 f.n2, pint_of f.d1 f.d2]
    rfl
  · dsimp only at a p q ⊢
    subst a p q
    have e0 : vtext 3 0 0 s = 34 :: (inside s.data.toList ++ [34]) := by simp [vtext, quoted]
    rw [e0]
    unfold gss
    have e1 : Lib.hasPrefix (34 :: (inside s.data.toList ++ [34])) [34] = true := by simp [Lib.hasPrefix, List.isPrefixOf]
    obtain ⟨e2, e3⟩ := suff_quote (inside s.data.toList)
    rw [e1]
    simp only [if_true, List.drop_succ_cons, List.drop_zero]
    unfold unqS
    rw [e2, e3]
    simp only [if_true]
    rw [unq_inside]
    rfl
theorem prs_text {v : Val} (h : v.may = 0) (f : v.Fits) : prs (vtext v.k v.n v.d v.s) = (v, 0) := by
  have hp := pure_of h
  unfold Val.may at h
  unfold prs
  rw [gss_text h f]
  dsimp only
  rw [if_pos ⟨rfl, hp, rfl⟩, if_pos h]
theorem text_len {v : Val} (h : v.may = 0) (f : v.Fits) : (vtext v.k v.n v.d v.s).length ≤ 300 := by
  have h1 := Lib.itoa_length_le v.n f.n1 f.n2
  have h2 := Lib.itoa_length_le v.d f.d1 f.d2
  have h3 := inside_len v.s.data.toList
  have h4 := chk_size h
  have h5 : v.s.data.toList.length = v.s.size := by simp
  unfold vtext
  split
  · omega
  · split
    · simp; omega
    · simp [quoted]; omega

end Go.Proofs.YticmebamclacaaaGreatDoor

namespace Go.Proofs.YticmebamclacaaaGreatDoor
open Go.RowKit Go.Shelf LX
set_option linter.unusedVariables false

/-- What digits say. -/
def foldN (l : List UInt8) : Nat := l.foldl (fun a c => a * 10 + (c.toNat - 48)) 0
theorem foldN_app (l : List UInt8) (c : UInt8) : foldN (l ++ [c]) = foldN l * 10 + (c.toNat - 48) := by simp [foldN]
theorem foldN_dec : ∀ u : Nat, foldN (Lib.decDigits u) = u := by
  intro u
  induction u using Nat.strongRecOn with
  | _ u ih =>
    by_cases h : u < 10
    · rw [Lib.decDigits_one h]
      have e := dg_nat u h
      simp [foldN]
      omega
    · have e := dg_nat (u % 10) (by omega)
      rw [Lib.decDigits, dif_neg h, foldN_app, ih (u / 10) (by omega), e]
      omega
theorem dec_len : ∀ (k u : Nat), u < 10 ^ (k + 1) → (Lib.decDigits u).length ≤ k + 1 := by
  intro k
  induction k with
  | zero =>
    intro u h
    have h' : u < 10 := by simpa using h
    rw [Lib.decDigits_one h']; simp
  | succ k ih =>
    intro u h
    by_cases h' : u < 10
    · rw [Lib.decDigits_one h']; simp
    · rw [Lib.decDigits, dif_neg h', List.length_append]
      have := ih (u / 10) (by rw [Nat.pow_succ] at h; omega)
      simp
      omega
theorem dec_head : ∀ u : Nat, hd (Lib.decDigits u) = 48 → u = 0 := by
  intro u
  induction u using Nat.strongRecOn with
  | _ u ih =>
    intro hh
    by_cases h : u < 10
    · rw [Lib.decDigits_one h] at hh
      have e := dg_nat u h
      simp only [hd] at hh
      omega
    · rw [Lib.decDigits, dif_neg h] at hh
      have hne := dec_ne (u / 10)
      have : hd (Lib.decDigits (u / 10)) = 48 := by
        cases hx : Lib.decDigits (u / 10) with
        | nil => exact absurd hx hne
        | cons c t => rw [hx] at hh; simpa [hd] using hh
      have := ih (u / 10) (by omega) this
      omega
theorem dec_of : ∀ (n : Nat) (l : List UInt8), l.length = n → l ≠ [] → (∀ c ∈ l, digN c.toNat = true) → (1 < l.length → hd l ≠ 48) → Lib.decDigits (foldN l) = l := by
  intro n
  induction n with
  | zero => intro l h h0; exact absurd (List.length_eq_zero_iff.mp h) h0
  | succ n ih =>
    intro l hn h0 hd1 hz
    obtain ⟨l', c, rfl⟩ : ∃ l' c, l = l' ++ [c] := ⟨l.dropLast, l.getLast h0, (List.dropLast_concat_getLast h0).symm⟩
    have hc : 48 ≤ c.toNat ∧ c.toNat ≤ 57 := by simpa [digN] using hd1 c (by simp)
    rw [foldN_app]
    by_cases hl : l' = []
    · subst hl
      have e : foldN [] * 10 + (c.toNat - 48) = c.toNat - 48 := by simp [foldN]
      rw [e, Lib.decDigits_one (by omega)]
      simp only [List.nil_append, List.cons.injEq, and_true]
      apply UInt8.toNat_inj.1
      rw [dg_nat _ (by omega)]
      omega
    · have hh : hd (l' ++ [c]) = hd l' := by
        cases l' with
        | nil => exact absurd rfl hl
        | cons a b => rfl
      have hpos : 0 < l'.length := List.length_pos_iff.2 hl
      have hz1 : hd l' ≠ 48 := by rw [← hh]; exact hz (by simp; omega)
      have ih' := ih l' (by simp at hn; exact hn) hl (fun x hx => hd1 x (by simp [hx])) (fun _ => hz1)
      have hf : foldN l' ≠ 0 := by
        intro h
        rw [h, Lib.decDigits_one (by omega)] at ih'
        rw [← ih'] at hz1
        exact hz1 rfl
      rw [Lib.decDigits, dif_neg (by omega)]
      have e1 : (foldN l' * 10 + (c.toNat - 48)) / 10 = foldN l' := by omega
      have e2 : (foldN l' * 10 + (c.toNat - 48)) % 10 = c.toNat - 48 := by omega
      rw [e1, e2, ih']
      congr 2
      apply UInt8.toNat_inj.1
      rw [dg_nat _ (by omega)]
      omega
/-- What the document's Number says of a text, whatever the limit. -/
def refN (l : List UInt8) : Option Nat :=
  if l = [] ∨ 18 < l.length ∨ (1 < l.length ∧ hd l = 48) ∨ l.all (fun c => digN c.toNat) = false then none else some (foldN l)
theorem may_int (n : Int) : Val.may ⟨1, n, 0, ⟨#[]⟩⟩ = 0 := by
  simp [Val.may, chk, pureB, ByteArray.toList_eq]
  decide
theorem numB_yes (l : List UInt8) (n : Nat) (h : refN l = some n) (hn : n ≤ 1099511627776) : numB l = (⟨1, n, 0, ⟨#[]⟩⟩, true) := by
  unfold refN at h
  split at h
  · cases h
  · rename_i hc
    simp only [not_or] at hc
    obtain ⟨h1, h2, h3, h4⟩ := hc
    cases h
    have hd1 : ∀ c ∈ l, digN c.toNat = true := by
      have : l.all (fun c => digN c.toNat) = true := by simpa using h4
      simpa [List.all_eq_true] using this
    have e := dec_of l.length l rfl h1 hd1 (fun hl hz => h3 ⟨hl, hz⟩)
    have e2 : vtext 1 (foldN l : Nat) 0 ⟨#[]⟩ = l := by
      show Lib.itoa (foldN l : Nat) = l
      unfold Lib.itoa
      rw [if_neg (by omega)]
      exact e
    have e3 : prs l = (⟨1, (foldN l : Nat), 0, ⟨#[]⟩⟩, 0) := by
      have q := prs_text (v := ⟨1, (foldN l : Nat), 0, ⟨#[]⟩⟩) (may_int _) ⟨by show _ ≤ ((foldN l : Nat) : Int); omega, by show ((foldN l : Nat) : Int) ≤ _; omega, by simp, by simp⟩
      rw [show vtext (⟨1, (foldN l : Nat), 0, ⟨#[]⟩⟩ : Val).k (⟨1, (foldN l : Nat), 0, ⟨#[]⟩⟩ : Val).n (⟨1, (foldN l : Nat), 0, ⟨#[]⟩⟩ : Val).d (⟨1, (foldN l : Nat), 0, ⟨#[]⟩⟩ : Val).s = l from e2] at q
      exact q
    unfold numB
    rw [e3, if_pos ⟨rfl, rfl, by show (0 : Int) ≤ ((foldN l : Nat) : Int); omega, by show ((foldN l : Nat) : Int) ≤ _; omega⟩]
theorem numB_no (l : List UInt8) (h : ∀ n, refN l = some n → 1099511627776 < n) : numB l = (zeroV, false) := by
  unfold numB
  rw [if_neg]
  rintro ⟨h1, h2, h3, h4⟩
  have hv : vtext (prs l).1.k (prs l).1.n (prs l).1.d (prs l).1.s = l := by
    unfold prs at h1 h2 ⊢
    split at h1
    · rename_i hc
      split at h1
      · rename_i hc2
        rw [if_pos hc, if_pos hc2]
        exact hc.2.2
      · rename_i hc2
        exact absurd h1 hc2
    · cases h1
  rw [h2] at hv
  have e : Lib.decDigits (prs l).1.n.toNat = l := by
    have h5 : Lib.itoa (prs l).1.n = l := hv
    unfold Lib.itoa at h5
    rw [if_neg (by omega)] at h5
    exact h5
  generalize (prs l).1.n = n at e h3 h4
  have e2 : refN l = some n.toNat := by
    have hl := dec_len 17 n.toNat (by omega)
    unfold refN
    rw [if_neg, ← e, foldN_dec]
    rw [← e]
    rintro (h | h | ⟨h, h'⟩ | h)
    · exact dec_ne _ h
    · omega
    · have := dec_head _ h'
      rw [this, Lib.decDigits_one (by omega)] at h
      simp at h
    · have : (Lib.decDigits n.toNat).all (fun c => digN c.toNat) = true := by
        rw [List.all_eq_true]
        intro c hc
        simpa [digN] using dec_digit _ c hc
      rw [this] at h
      cases h
  have := h _ e2
  omega
end Go.Proofs.YticmebamclacaaaGreatDoor

namespace Go.Proofs.YticmebamclacaaaGreatDoor
open Go.RowKit Go.Shelf LX
set_option linter.unusedVariables false

theorem foldN_lt : ∀ (n : Nat) (l : List UInt8), l.length = n → (∀ c ∈ l, digN c.toNat = true) → foldN l < 10 ^ n := by
  intro n
  induction n with
  | zero => intro l h _; rw [List.length_eq_zero_iff.mp h]; decide
  | succ n ih =>
    intro l hn hd1
    have h0 : l ≠ [] := by intro h; rw [h] at hn; simp at hn
    obtain ⟨l', c, rfl⟩ : ∃ l' c, l = l' ++ [c] := ⟨l.dropLast, l.getLast h0, (List.dropLast_concat_getLast h0).symm⟩
    have hc : 48 ≤ c.toNat ∧ c.toNat ≤ 57 := by simpa [digN] using hd1 c (by simp)
    have := ih l' (by simp at hn; exact hn) (fun x hx => hd1 x (by simp [hx]))
    rw [foldN_app, Nat.pow_succ]
    omega
theorem take_more (s : ByteArray) (k : Nat) (h : k < s.size) : s.data.toList.take (k + 1) = s.data.toList.take k ++ [s[k]] := by
  have h' : k < s.data.toList.length := by simpa using h
  rw [List.take_add_one, List.getElem?_eq_getElem h']
  rfl
set_option maxRecDepth 100000 in
set_option maxHeartbeats 4000000 in
theorem rnum_no (s : ByteArray) (M : Int) (w : World) (h : s.size = 0 ∨ 18 < s.size ∨ (∃ h1 : 1 < s.size, s[0].toNat = 48)) :
    Calls Tryz.prog 90 #[.string s, .int .i64 M] w fun e w' => e = .returned (.tuple #[.int .i64 0, .bool false]) ∧ w' = w := by
  by_cases h0 : s.size = 0
  · have c0 : ((s.size : Int) == 0) = true := beq_iff_eq.mpr (by omega)
    have c0' : (s.size : Int) = 0 := by omega
    go_enter Tryz.func90, Tryz.ntmps90
    go_wp2
    refine bodyPost_ret (by simp [results, Tryz.results90, go_sem]; try rfl) rfl ?_
    exact ⟨rfl, rfl⟩
  · have c0 : ((s.size : Int) == 0) = false := beq_eq_false_iff_ne.mpr (by omega)
    by_cases h18 : 18 < s.size
    · have c1 : (18 : Int) < s.size := by omega
      go_enter Tryz.func90, Tryz.ntmps90
      go_wp2
      refine bodyPost_ret (by simp [results, Tryz.results90, go_sem]; try rfl) rfl ?_
      exact ⟨rfl, rfl⟩
    · have c1 : ¬ (18 : Int) < s.size := by omega
      rcases h with h | h | ⟨h1, h⟩
      · exact absurd h h0
      · exact absurd h h18
      · have c2 : (1 : Int) < s.size := by omega
        have c3 : ((s[0].toNat : Nat) : Int) = 48 := by omega
        have c4 : (0 : Int) < s.size := by omega
        have hz : 0 < s.size := by omega
        go_enter Tryz.func90, Tryz.ntmps90
        go_wp2
        refine bodyPost_ret (by simp [results, Tryz.results90, go_sem]; try rfl) rfl ?_
        exact ⟨rfl, rfl⟩
set_option maxRecDepth 100000 in
set_option maxHeartbeats 4000000 in
theorem rnum_go (s : ByteArray) (M : Int) (w : World) (h0 : 0 < s.size) (h18 : s.size ≤ 18) (hz : ∀ h1 : 1 < s.size, ¬ s[0].toNat = 48) :
    Calls Tryz.prog 90 #[.string s, .int .i64 M] w fun e w' => e = .returned (.tuple (if s.data.toList.all (fun c => digN c.toNat) = true then #[.int .i64 (foldN s.data.toList : Nat), .bool (decide (((foldN s.data.toList : Nat) : Int) ≤ M))] else #[.int .i64 0, .bool false])) ∧ w' = w := by
  have hl : s.data.toList.length = s.size := by simp
  have c0 : ((s.size : Int) == 0) = false := beq_eq_false_iff_ne.mpr (by omega)
  have c1 : ¬ (18 : Int) < s.size := by omega
  have c9 : (0 : Int) < s.size := by omega
  have DG : Hid (∀ (c : Nat) (W : World), c < 256 → Calls Tryz.prog 83 #[.int .u8 c] W fun x w' => x = .returned (.bool (digN c)) ∧ w' = W) := fun c W h => rdigit_any c W h
  obtain ⟨AN, eAN⟩ : ∃ AN : Array Value, Hid ((if s.data.toList.all (fun c => digN c.toNat) = true then #[.int .i64 (foldN s.data.toList : Nat), .bool (decide (((foldN s.data.toList : Nat) : Int) ≤ M))] else #[.int .i64 0, .bool false]) = AN) := ⟨_, rfl⟩
  rw [eAN.out]
  have c3 : 1 < s.size → ((s[0].toNat : Int) == 48) = false := fun h1 => beq_eq_false_iff_ne.mpr (by have := hz h1; omega)
  have body : ∀ (_ : True), Calls Tryz.prog 90 #[.string s, .int .i64 M] w fun e w' => e = .returned (.tuple AN) ∧ w' = w := by
    intro _
    by_cases h1 : 1 < s.size
    · have d1 : (1 : Int) < s.size := by omega
      have d2 := c3 h1
      have d3 : ¬ ((s[0].toNat : Nat) : Int) = 48 := by simpa using d2
      go_enter Tryz.func90, Tryz.ntmps90
      go_wp2
      go_loopw [6, 7] (fun v6 v7 wr => ∃ k : Nat, v6 = .int .i64 (foldN (s.data.toList.take k) : Nat) ∧ v7 = .int .i64 k ∧ k ≤ s.size ∧ wr = w ∧ Hid (∀ c ∈ s.data.toList.take k, digN c.toNat = true)) (fun _ v7 _ => s.size - (ivR v7).toNat)
      case atStart => exact ⟨0, rfl, rfl, Nat.zero_le _, rfl, (fun c hc => by simp at hc : ∀ c ∈ s.data.toList.take 0, digN c.toNat = true)⟩
      case round =>
        obtain ⟨k, rfl, rfl, hk, rfl, hD⟩ := hrel
        by_cases hlt : k < s.size
        · have c4 : (k : Int) < s.size := by omega
          have hF := foldN_lt k (s.data.toList.take k) (by simp; omega) hD.out
          have hp : 10 ^ k ≤ 10 ^ 17 := Nat.pow_le_pow_right (by decide) (by omega)
          have hF2 : foldN (s.data.toList.take k) < 100000000000000000 := by
            have : (10 : Nat) ^ 17 = 100000000000000000 := by decide
            omega
          have hnx : Hid (foldN (s.data.toList.take (k + 1)) = foldN (s.data.toList.take k) * 10 + (s[k].toNat - 48)) := by
            show _ = _
            rw [take_more s k hlt, foldN_app]
          have hmem : Hid (s[k] ∈ s.data.toList) := List.getElem_mem (l := s.data.toList) (by simpa using hlt)
          clear hF hp
          generalize foldN (s.data.toList.take k) = F at hF2 hnx
          go_wp2_with fail
          refine (DG.out _ _ s[k].toNat_lt).mono ?_
          rintro e w1 ⟨rfl, rfl⟩
          cases hd0 : digN s[k].toNat
          · have hAN : AN = #[.int .i64 0, .bool false] := by
              rw [← eAN.out, if_neg]
              intro hx
              rw [List.all_eq_true] at hx
              have := hx _ hmem.out
              rw [hd0] at this
              cases this
            subst hAN
            go_wp2
            refine bodyPost_ret (by simp [results, Tryz.results90, go_sem]; try rfl) rfl ?_
            exact ⟨rfl, rfl⟩
          · have hc : 48 ≤ s[k].toNat ∧ s[k].toNat ≤ 57 := by simpa [digN] using hd0
            have hc1 : (48 : Int) ≤ s[k].toNat := by omega
            have hc2 : ((s[k].toNat : Nat) : Int) ≤ 57 := by omega
            have hF3 : (F : Int) < 100000000000000000 := by omega
            have hD2 : Hid (∀ c ∈ s.data.toList.take (k + 1), digN c.toNat = true) := fun c hc => by
              rw [take_more s k hlt] at hc
              rcases List.mem_append.1 hc with hc | hc
              · exact hD.out c hc
              · rw [List.mem_singleton.1 hc]; exact hd0
            go_wp2
            refine ⟨⟨k + 1, ?_, by go_num, by omega, trivial, hD2⟩, by simp [ivR]; omega⟩
            rw [hnx.out]
            congr 1
            omega
        · have c4 : ¬ (k : Int) < s.size := by omega
          have hfin : s.data.toList.take k = s.data.toList := List.take_of_length_le (by omega)
          rw [hfin] at hD ⊢
          have hAN : AN = #[.int .i64 (foldN s.data.toList : Nat), .bool (decide (((foldN s.data.toList : Nat) : Int) ≤ M))] := by
            rw [← eAN.out, if_pos]
            rw [List.all_eq_true]
            exact hD.out
          subst hAN
          generalize hFe : foldN s.data.toList = F
          go_wp2
          refine bodyPost_ret (by simp [results, Tryz.results90, go_sem]; try rfl) rfl ?_
          exact ⟨rfl, rfl⟩
    · have d1 : ¬ (1 : Int) < s.size := by omega
      go_enter Tryz.func90, Tryz.ntmps90
      go_wp2
      go_loopw [6, 7] (fun v6 v7 wr => ∃ k : Nat, v6 = .int .i64 (foldN (s.data.toList.take k) : Nat) ∧ v7 = .int .i64 k ∧ k ≤ s.size ∧ wr = w ∧ Hid (∀ c ∈ s.data.toList.take k, digN c.toNat = true)) (fun _ v7 _ => s.size - (ivR v7).toNat)
      case atStart => exact ⟨0, rfl, rfl, Nat.zero_le _, rfl, (fun c hc => by simp at hc : ∀ c ∈ s.data.toList.take 0, digN c.toNat = true)⟩
      case round =>
        obtain ⟨k, rfl, rfl, hk, rfl, hD⟩ := hrel
        by_cases hlt : k < s.size
        · have c4 : (k : Int) < s.size := by omega
          have hF := foldN_lt k (s.data.toList.take k) (by simp; omega) hD.out
          have hp : 10 ^ k ≤ 10 ^ 17 := Nat.pow_le_pow_right (by decide) (by omega)
          have hF2 : foldN (s.data.toList.take k) < 100000000000000000 := by
            have : (10 : Nat) ^ 17 = 100000000000000000 := by decide
            omega
          have hnx : Hid (foldN (s.data.toList.take (k + 1)) = foldN (s.data.toList.take k) * 10 + (s[k].toNat - 48)) := by
            show _ = _
            rw [take_more s k hlt, foldN_app]
          have hmem : Hid (s[k] ∈ s.data.toList) := List.getElem_mem (l := s.data.toList) (by simpa using hlt)
          clear hF hp
          generalize foldN (s.data.toList.take k) = F at hF2 hnx
          go_wp2_with fail
          refine (DG.out _ _ s[k].toNat_lt).mono ?_
          rintro e w1 ⟨rfl, rfl⟩
          cases hd0 : digN s[k].toNat
          · have hAN : AN = #[.int .i64 0, .bool false] := by
              rw [← eAN.out, if_neg]
              intro hx
              rw [List.all_eq_true] at hx
              have := hx _ hmem.out
              rw [hd0] at this
              cases this
            subst hAN
            go_wp2
            refine bodyPost_ret (by simp [results, Tryz.results90, go_sem]; try rfl) rfl ?_
            exact ⟨rfl, rfl⟩
          · have hc : 48 ≤ s[k].toNat ∧ s[k].toNat ≤ 57 := by simpa [digN] using hd0
            have hc1 : (48 : Int) ≤ s[k].toNat := by omega
            have hc2 : ((s[k].toNat : Nat) : Int) ≤ 57 := by omega
            have hF3 : (F : Int) < 100000000000000000 := by omega
            have hD2 : Hid (∀ c ∈ s.data.toList.take (k + 1), digN c.toNat = true) := fun c hc => by
              rw [take_more s k hlt] at hc
              rcases List.mem_append.1 hc with hc | hc
              · exact hD.out c hc
              · rw [List.mem_singleton.1 hc]; exact hd0
            go_wp2
            refine ⟨⟨k + 1, ?_, by go_num, by omega, trivial, hD2⟩, by simp [ivR]; omega⟩
            rw [hnx.out]
            congr 1
            omega
        · have c4 : ¬ (k : Int) < s.size := by omega
          have hfin : s.data.toList.take k = s.data.toList := List.take_of_length_le (by omega)
          rw [hfin] at hD ⊢
          have hAN : AN = #[.int .i64 (foldN s.data.toList : Nat), .bool (decide (((foldN s.data.toList : Nat) : Int) ≤ M))] := by
            rw [← eAN.out, if_pos]
            rw [List.all_eq_true]
            exact hD.out
          subst hAN
          generalize hFe : foldN s.data.toList = F
          go_wp2
          refine bodyPost_ret (by simp [results, Tryz.results90, go_sem]; try rfl) rfl ?_
          exact ⟨rfl, rfl⟩
  exact body trivial
/-- Number at every text: the number, and whether it may be. -/
def numR (l : List UInt8) (M : Int) : Int × Bool := match refN l with
  | none => (0, false)
  | some n => (n, decide ((n : Int) ≤ M))
theorem rnumber_any (s : ByteArray) (M : Int) (w : World) :
    Calls Tryz.prog 90 #[.string s, .int .i64 M] w fun e w' => e = .returned (.tuple #[.int .i64 (numR s.data.toList M).1, .bool (numR s.data.toList M).2]) ∧ w' = w := by
  have hl : s.data.toList.length = s.size := by simp
  by_cases h : s.size = 0 ∨ 18 < s.size ∨ (∃ h1 : 1 < s.size, s[0].toNat = 48)
  · have e : refN s.data.toList = none := by
      unfold refN
      rw [if_pos]
      rcases h with h | h | ⟨h1, h⟩
      · left; exact List.length_eq_zero_iff.mp (by omega)
      · right; left; omega
      · right; right; left
        refine ⟨by omega, ?_⟩
        have := hd_drop s 0 (by omega)
        rw [List.drop_zero] at this
        rw [this]; exact h
    unfold numR
    rw [e]
    exact rnum_no s M w h
  · simp only [not_or] at h
    obtain ⟨h1, h2, h3⟩ := h
    have q := rnum_go s M w (by omega) (by omega) (fun h4 h5 => h3 ⟨h4, h5⟩)
    unfold numR
    cases ha : s.data.toList.all (fun c => digN c.toNat)
    · have e : refN s.data.toList = none := by unfold refN; rw [if_pos (.inr (.inr (.inr ha)))]
      rw [e]
      rw [ha] at q
      exact q
    · have e : refN s.data.toList = some (foldN s.data.toList) := by
        unfold refN
        rw [if_neg]
        rintro (h | h | ⟨h, h'⟩ | h)
        · rw [h] at hl; simp at hl; omega
        · omega
        · have := hd_drop s 0 (by omega)
          rw [List.drop_zero] at this
          rw [this] at h'
          exact h3 ⟨by omega, h'⟩
        · rw [ha] at h; cases h
      rw [e]
      rw [ha] at q
      exact q
theorem numR_B (l : List UInt8) : (numR l 1099511627776).2 = (numB l).2 ∧ ((numB l).2 = true → numB l = (⟨1, (numR l 1099511627776).1, 0, ⟨#[]⟩⟩, true)) := by
  unfold numR
  cases h : refN l with
  | none => rw [numB_no l (fun n hn => by rw [h] at hn; cases hn)]; exact ⟨rfl, fun h => by cases h⟩
  | some n =>
    by_cases hn : n ≤ 1099511627776
    · rw [numB_yes l n h hn]
      exact ⟨decide_eq_true (by omega), fun _ => rfl⟩
    · rw [numB_no l (fun m hm => by rw [h] at hm; cases hm; omega)]
      exact ⟨decide_eq_false (by omega), fun h => by cases h⟩
end Go.Proofs.YticmebamclacaaaGreatDoor

namespace Go.Proofs.YticmebamclacaaaGreatDoor
open Go.RowKit Go.Shelf LX
set_option linter.unusedVariables false

/-- An interval of some kind, and whether there is one. -/
def EndsOut (e : Ending) (b : Bool) : Prop := ∃ (lo hi : Int) (op : Bool), e = .returned (.tuple #[.agg #[.int .i64 lo, .int .i64 hi, .bool op], .bool b])
set_option maxRecDepth 100000 in
set_option maxHeartbeats 4000000 in
theorem ends_0 (s A B : ByteArray) (cm : Nat) (a b : Int) (oa ob : Bool) (w : World) (hs : s.size ≤ 16384) (hcm : cm ≤ s.size)
    (hne : Hid (∀ i (hi : i < s.size), i < cm → ¬ s[i].toNat = 44)) (heq : Hid (∀ h : cm < s.size, s[cm].toNat = 44))
    (NA : Hid (∀ W : World, Calls Tryz.prog 90 #[.string A, .int .i64 1099511627776] W fun e w' => e = .returned (.tuple #[.int .i64 a, .bool oa]) ∧ w' = W))
    (NB : Hid (∀ W : World, Calls Tryz.prog 90 #[.string B, .int .i64 1099511627776] W fun e w' => e = .returned (.tuple #[.int .i64 b, .bool ob]) ∧ w' = W)) (h : s.size < 5) :
    Calls Tryz.prog 86 #[.string s] w fun e w' => EndsOut e false ∧ Below w.heap.size w w' := by
  have q1 : (s.size : Int) < 5 := by omega
  go_enter Tryz.func86, Tryz.ntmps86
  go_wp2
  go_loopw [4] (fun v wr => ∃ k : Nat, v = .int .i64 k ∧ k ≤ cm ∧ wr = w.alloc (Obj.cells #[.int .i64 0, .int .i64 0, .bool false] 148)) (fun v _ => cm - (ivR v).toNat)
  case atStart => exact ⟨0, rfl, Nat.zero_le _, rfl⟩
  case round =>
    obtain ⟨k, rfl, hk, rfl⟩ := hrel
    by_cases hlt : k < cm
    · have hks : k < s.size := by omega
      have c1 : (k : Int) < s.size := by omega
      have n44 := hne.out k hks hlt
      have b44 : ((s[k].toNat : Int) != 44) = true := by simp; omega
      have n44' : ¬ ((s[k].toNat : Nat) : Int) = 44 := by omega
      go_wp2
      exact ⟨⟨k + 1, by go_num, by omega, trivial⟩, by simp [ivR]; omega⟩
    · have hke : k = cm := by omega
      subst hke
      by_cases hcs : k < s.size
      · have c1 : (k : Int) < s.size := by omega
        have h44 := heq.out hcs
        have h44' : ((s[k].toNat : Nat) : Int) = 44 := by omega
        go_wp2
        all_goals
          refine bodyPost_ret (by simp [results, Tryz.results86, go_sem]; try rfl) rfl ?_
          exact ⟨⟨_, _, _, rfl⟩, (Below.refl _ w).alloc (Nat.le_refl _) _⟩
      · have c1 : ¬ (k : Int) < s.size := by omega
        go_wp2
        all_goals
          refine bodyPost_ret (by simp [results, Tryz.results86, go_sem]; try rfl) rfl ?_
          exact ⟨⟨_, _, _, rfl⟩, (Below.refl _ w).alloc (Nat.le_refl _) _⟩
set_option maxRecDepth 100000 in
set_option maxHeartbeats 4000000 in
theorem ends_1 (s A B : ByteArray) (cm : Nat) (a b : Int) (oa ob : Bool) (w : World) (hs : s.size ≤ 16384) (hcm : cm ≤ s.size)
    (hne : Hid (∀ i (hi : i < s.size), i < cm → ¬ s[i].toNat = 44)) (heq : Hid (∀ h : cm < s.size, s[cm].toNat = 44))
    (NA : Hid (∀ W : World, Calls Tryz.prog 90 #[.string A, .int .i64 1099511627776] W fun e w' => e = .returned (.tuple #[.int .i64 a, .bool oa]) ∧ w' = W))
    (NB : Hid (∀ W : World, Calls Tryz.prog 90 #[.string B, .int .i64 1099511627776] W fun e w' => e = .returned (.tuple #[.int .i64 b, .bool ob]) ∧ w' = W)) (h : 5 ≤ s.size) (h1 : s.size < cm + 3) :
    Calls Tryz.prog 86 #[.string s] w fun e w' => EndsOut e false ∧ Below w.heap.size w w' := by
  have q1 : ¬ (s.size : Int) < 5 := by omega
  have q2 : (s.size : Int) - 3 < cm := by omega
  go_enter Tryz.func86, Tryz.ntmps86
  go_wp2
  go_loopw [4] (fun v wr => ∃ k : Nat, v = .int .i64 k ∧ k ≤ cm ∧ wr = w.alloc (Obj.cells #[.int .i64 0, .int .i64 0, .bool false] 148)) (fun v _ => cm - (ivR v).toNat)
  case atStart => exact ⟨0, rfl, Nat.zero_le _, rfl⟩
  case round =>
    obtain ⟨k, rfl, hk, rfl⟩ := hrel
    by_cases hlt : k < cm
    · have hks : k < s.size := by omega
      have c1 : (k : Int) < s.size := by omega
      have n44 := hne.out k hks hlt
      have b44 : ((s[k].toNat : Int) != 44) = true := by simp; omega
      have n44' : ¬ ((s[k].toNat : Nat) : Int) = 44 := by omega
      go_wp2
      exact ⟨⟨k + 1, by go_num, by omega, trivial⟩, by simp [ivR]; omega⟩
    · have hke : k = cm := by omega
      subst hke
      by_cases hcs : k < s.size
      · have c1 : (k : Int) < s.size := by omega
        have h44 := heq.out hcs
        have h44' : ((s[k].toNat : Nat) : Int) = 44 := by omega
        go_wp2
        all_goals
          refine bodyPost_ret (by simp [results, Tryz.results86, go_sem]; try rfl) rfl ?_
          exact ⟨⟨_, _, _, rfl⟩, (Below.refl _ w).alloc (Nat.le_refl _) _⟩
      · have c1 : ¬ (k : Int) < s.size := by omega
        go_wp2
        all_goals
          refine bodyPost_ret (by simp [results, Tryz.results86, go_sem]; try rfl) rfl ?_
          exact ⟨⟨_, _, _, rfl⟩, (Below.refl _ w).alloc (Nat.le_refl _) _⟩
set_option maxRecDepth 100000 in
set_option maxHeartbeats 4000000 in
theorem ends_2 (s A B : ByteArray) (cm : Nat) (a b : Int) (oa ob : Bool) (w : World) (hs : s.size ≤ 16384) (hcm : cm ≤ s.size)
    (hne : Hid (∀ i (hi : i < s.size), i < cm → ¬ s[i].toNat = 44)) (heq : Hid (∀ h : cm < s.size, s[cm].toNat = 44))
    (NA : Hid (∀ W : World, Calls Tryz.prog 90 #[.string A, .int .i64 1099511627776] W fun e w' => e = .returned (.tuple #[.int .i64 a, .bool oa]) ∧ w' = W))
    (NB : Hid (∀ W : World, Calls Tryz.prog 90 #[.string B, .int .i64 1099511627776] W fun e w' => e = .returned (.tuple #[.int .i64 b, .bool ob]) ∧ w' = W)) (h : 5 ≤ s.size) (h1 : cm + 3 ≤ s.size) (h91 : ∀ h0 : 0 < s.size, s[0].toNat = 91) (h93 : ∀ h0 : 0 < s.size, (s[s.size - 1]'(by omega)).toNat = 93) (eA : s.extract 1 cm = A) (eB : s.extract (cm + 1) (s.size - 1) = B) (h1c : 1 ≤ cm) (ho : oa = false) :
    Calls Tryz.prog 86 #[.string s] w fun e w' => EndsOut e false ∧ Below w.heap.size w w' := by
  subst ho
  have q1 : ¬ (s.size : Int) < 5 := by omega
  have q2 : ¬ (s.size : Int) - 3 < cm := by omega
  have e0 : ((s[0].toNat : Nat) : Int) = 91 := by have := h91 (by omega); omega
  have e1 : (((s[s.size - 1]'(by omega)).toNat : Nat) : Int) = 93 := by have := h93 (by omega); omega
  have q3 : (cm : Int) ≤ s.size := by omega
  have q4 : (1 : Int) ≤ cm := by omega
  have q5 : (cm : Int) + 1 ≤ (s.size : Int) - 1 := by omega
  have q6 : (s.size : Int) - 1 ≤ s.size := by omega
  have q7 : (0 : Int) ≤ (s.size : Int) - 1 := by omega
  go_enter Tryz.func86, Tryz.ntmps86
  go_wp2
  go_loopw [4] (fun v wr => ∃ k : Nat, v = .int .i64 k ∧ k ≤ cm ∧ wr = w.alloc (Obj.cells #[.int .i64 0, .int .i64 0, .bool false] 148)) (fun v _ => cm - (ivR v).toNat)
  case atStart => exact ⟨0, rfl, Nat.zero_le _, rfl⟩
  case round =>
    obtain ⟨k, rfl, hk, rfl⟩ := hrel
    by_cases hlt : k < cm
    · have hks : k < s.size := by omega
      have c1 : (k : Int) < s.size := by omega
      have n44 := hne.out k hks hlt
      have b44 : ((s[k].toNat : Int) != 44) = true := by simp; omega
      have n44' : ¬ ((s[k].toNat : Nat) : Int) = 44 := by omega
      go_wp2
      exact ⟨⟨k + 1, by go_num, by omega, trivial⟩, by simp [ivR]; omega⟩
    · have hke : k = cm := by omega
      subst hke
      have hcs : k < s.size := by omega
      have c1 : (k : Int) < s.size := by omega
      have h44 := heq.out hcs
      have h44' : ((s[k].toNat : Nat) : Int) = 44 := by omega
      have z0 : 0 < s.size := by omega
      have z0' : (0 : Int) < s.size := by omega
      go_wp2_with fail
      refine (NA.out _).mono ?_
      rintro e w1 ⟨rfl, rfl⟩
      go_wp2
      refine bodyPost_ret (by simp [results, Tryz.results86, go_sem]; try rfl) rfl ?_
      exact ⟨⟨_, _, _, rfl⟩, (Below.refl _ w).alloc (Nat.le_refl _) _⟩
set_option maxRecDepth 100000 in
set_option maxHeartbeats 4000000 in
theorem ends_3 (s A B : ByteArray) (cm : Nat) (a b : Int) (oa ob : Bool) (w : World) (hs : s.size ≤ 16384) (hcm : cm ≤ s.size)
    (hne : Hid (∀ i (hi : i < s.size), i < cm → ¬ s[i].toNat = 44)) (heq : Hid (∀ h : cm < s.size, s[cm].toNat = 44))
    (NA : Hid (∀ W : World, Calls Tryz.prog 90 #[.string A, .int .i64 1099511627776] W fun e w' => e = .returned (.tuple #[.int .i64 a, .bool oa]) ∧ w' = W))
    (NB : Hid (∀ W : World, Calls Tryz.prog 90 #[.string B, .int .i64 1099511627776] W fun e w' => e = .returned (.tuple #[.int .i64 b, .bool ob]) ∧ w' = W)) (h : 5 ≤ s.size) (h1 : cm + 3 ≤ s.size) (h91 : ∀ h0 : 0 < s.size, s[0].toNat = 91) (h93 : ∀ h0 : 0 < s.size, (s[s.size - 1]'(by omega)).toNat = 93) (eA : s.extract 1 cm = A) (eB : s.extract (cm + 1) (s.size - 1) = B) (h1c : 1 ≤ cm) (ho : oa = true) (hB : B = ⟨#[42]⟩) :
    Calls Tryz.prog 86 #[.string s] w fun e w' => EndsOut e true ∧ Below w.heap.size w w' := by
  subst ho
  subst hB
  have q1 : ¬ (s.size : Int) < 5 := by omega
  have q2 : ¬ (s.size : Int) - 3 < cm := by omega
  have e0 : ((s[0].toNat : Nat) : Int) = 91 := by have := h91 (by omega); omega
  have e1 : (((s[s.size - 1]'(by omega)).toNat : Nat) : Int) = 93 := by have := h93 (by omega); omega
  have q3 : (cm : Int) ≤ s.size := by omega
  have q4 : (1 : Int) ≤ cm := by omega
  have q5 : (cm : Int) + 1 ≤ (s.size : Int) - 1 := by omega
  have q6 : (s.size : Int) - 1 ≤ s.size := by omega
  have q7 : (0 : Int) ≤ (s.size : Int) - 1 := by omega
  go_enter Tryz.func86, Tryz.ntmps86
  go_wp2
  go_loopw [4] (fun v wr => ∃ k : Nat, v = .int .i64 k ∧ k ≤ cm ∧ wr = w.alloc (Obj.cells #[.int .i64 0, .int .i64 0, .bool false] 148)) (fun v _ => cm - (ivR v).toNat)
  case atStart => exact ⟨0, rfl, Nat.zero_le _, rfl⟩
  case round =>
    obtain ⟨k, rfl, hk, rfl⟩ := hrel
    by_cases hlt : k < cm
    · have hks : k < s.size := by omega
      have c1 : (k : Int) < s.size := by omega
      have n44 := hne.out k hks hlt
      have b44 : ((s[k].toNat : Int) != 44) = true := by simp; omega
      have n44' : ¬ ((s[k].toNat : Nat) : Int) = 44 := by omega
      go_wp2
      exact ⟨⟨k + 1, by go_num, by omega, trivial⟩, by simp [ivR]; omega⟩
    · have hke : k = cm := by omega
      subst hke
      have hcs : k < s.size := by omega
      have c1 : (k : Int) < s.size := by omega
      have h44 := heq.out hcs
      have h44' : ((s[k].toNat : Nat) : Int) = 44 := by omega
      have z0 : 0 < s.size := by omega
      have z0' : (0 : Int) < s.size := by omega
      go_wp2_with fail
      refine (NA.out _).mono ?_
      rintro e w1 ⟨rfl, rfl⟩
      go_wp2
      refine bodyPost_ret (by simp [results, Tryz.results86, go_sem]; try rfl) rfl ?_
      exact ⟨⟨_, _, _, rfl⟩, (Below.refl _ w).alloc (Nat.le_refl _) _⟩
set_option maxRecDepth 100000 in
set_option maxHeartbeats 4000000 in
theorem ends_4 (s A B : ByteArray) (cm : Nat) (a b : Int) (oa ob : Bool) (w : World) (hs : s.size ≤ 16384) (hcm : cm ≤ s.size)
    (hne : Hid (∀ i (hi : i < s.size), i < cm → ¬ s[i].toNat = 44)) (heq : Hid (∀ h : cm < s.size, s[cm].toNat = 44))
    (NA : Hid (∀ W : World, Calls Tryz.prog 90 #[.string A, .int .i64 1099511627776] W fun e w' => e = .returned (.tuple #[.int .i64 a, .bool oa]) ∧ w' = W))
    (NB : Hid (∀ W : World, Calls Tryz.prog 90 #[.string B, .int .i64 1099511627776] W fun e w' => e = .returned (.tuple #[.int .i64 b, .bool ob]) ∧ w' = W)) (h : 5 ≤ s.size) (h1 : cm + 3 ≤ s.size) (h91 : ∀ h0 : 0 < s.size, s[0].toNat = 91) (h93 : ∀ h0 : 0 < s.size, (s[s.size - 1]'(by omega)).toNat = 93) (eA : s.extract 1 cm = A) (eB : s.extract (cm + 1) (s.size - 1) = B) (h1c : 1 ≤ cm) (ho : oa = true) (hB : ¬ B = ⟨#[42]⟩) (hp : ob = false) :
    Calls Tryz.prog 86 #[.string s] w fun e w' => EndsOut e false ∧ Below w.heap.size w w' := by
  subst ho
  subst hp
  have hB1 : (B.toList == [42]) = false := beq_eq_false_iff_ne.mpr (fun h => hB (by rw [ByteArray.toList_eq] at h; exact ba_eq h))
  have q1 : ¬ (s.size : Int) < 5 := by omega
  have q2 : ¬ (s.size : Int) - 3 < cm := by omega
  have e0 : ((s[0].toNat : Nat) : Int) = 91 := by have := h91 (by omega); omega
  have e1 : (((s[s.size - 1]'(by omega)).toNat : Nat) : Int) = 93 := by have := h93 (by omega); omega
  have q3 : (cm : Int) ≤ s.size := by omega
  have q4 : (1 : Int) ≤ cm := by omega
  have q5 : (cm : Int) + 1 ≤ (s.size : Int) - 1 := by omega
  have q6 : (s.size : Int) - 1 ≤ s.size := by omega
  have q7 : (0 : Int) ≤ (s.size : Int) - 1 := by omega
  go_enter Tryz.func86, Tryz.ntmps86
  go_wp2
  go_loopw [4] (fun v wr => ∃ k : Nat, v = .int .i64 k ∧ k ≤ cm ∧ wr = w.alloc (Obj.cells #[.int .i64 0, .int .i64 0, .bool false] 148)) (fun v _ => cm - (ivR v).toNat)
  case atStart => exact ⟨0, rfl, Nat.zero_le _, rfl⟩
  case round =>
    obtain ⟨k, rfl, hk, rfl⟩ := hrel
    by_cases hlt : k < cm
    · have hks : k < s.size := by omega
      have c1 : (k : Int) < s.size := by omega
      have n44 := hne.out k hks hlt
      have b44 : ((s[k].toNat : Int) != 44) = true := by simp; omega
      have n44' : ¬ ((s[k].toNat : Nat) : Int) = 44 := by omega
      go_wp2
      exact ⟨⟨k + 1, by go_num, by omega, trivial⟩, by simp [ivR]; omega⟩
    · have hke : k = cm := by omega
      subst hke
      have hcs : k < s.size := by omega
      have c1 : (k : Int) < s.size := by omega
      have h44 := heq.out hcs
      have h44' : ((s[k].toNat : Nat) : Int) = 44 := by omega
      have z0 : 0 < s.size := by omega
      have z0' : (0 : Int) < s.size := by omega
      go_wp2_with fail
      refine (NA.out _).mono ?_
      rintro e w1 ⟨rfl, rfl⟩
      go_wp2_with fail
      refine (NB.out _).mono ?_
      rintro e w1 ⟨rfl, rfl⟩
      go_wp2
      refine bodyPost_ret (by simp [results, Tryz.results86, go_sem]; try rfl) rfl ?_
      exact ⟨⟨_, _, _, rfl⟩, (Below.refl _ w).alloc (Nat.le_refl _) _⟩
set_option maxRecDepth 100000 in
set_option maxHeartbeats 4000000 in
theorem ends_5 (s A B : ByteArray) (cm : Nat) (a b : Int) (oa ob : Bool) (w : World) (hs : s.size ≤ 16384) (hcm : cm ≤ s.size)
    (hne : Hid (∀ i (hi : i < s.size), i < cm → ¬ s[i].toNat = 44)) (heq : Hid (∀ h : cm < s.size, s[cm].toNat = 44))
    (NA : Hid (∀ W : World, Calls Tryz.prog 90 #[.string A, .int .i64 1099511627776] W fun e w' => e = .returned (.tuple #[.int .i64 a, .bool oa]) ∧ w' = W))
    (NB : Hid (∀ W : World, Calls Tryz.prog 90 #[.string B, .int .i64 1099511627776] W fun e w' => e = .returned (.tuple #[.int .i64 b, .bool ob]) ∧ w' = W)) (h : 5 ≤ s.size) (h1 : cm + 3 ≤ s.size) (h91 : ∀ h0 : 0 < s.size, s[0].toNat = 91) (h93 : ∀ h0 : 0 < s.size, (s[s.size - 1]'(by omega)).toNat = 93) (eA : s.extract 1 cm = A) (eB : s.extract (cm + 1) (s.size - 1) = B) (h1c : 1 ≤ cm) (ho : oa = true) (hB : ¬ B = ⟨#[42]⟩) (hp : ob = true) (hab : a ≤ b) :
    Calls Tryz.prog 86 #[.string s] w fun e w' => EndsOut e true ∧ Below w.heap.size w w' := by
  subst ho
  subst hp
  have hab1 : ¬ b < a := by omega
  have hB1 : (B.toList == [42]) = false := beq_eq_false_iff_ne.mpr (fun h => hB (by rw [ByteArray.toList_eq] at h; exact ba_eq h))
  have q1 : ¬ (s.size : Int) < 5 := by omega
  have q2 : ¬ (s.size : Int) - 3 < cm := by omega
  have e0 : ((s[0].toNat : Nat) : Int) = 91 := by have := h91 (by omega); omega
  have e1 : (((s[s.size - 1]'(by omega)).toNat : Nat) : Int) = 93 := by have := h93 (by omega); omega
  have q3 : (cm : Int) ≤ s.size := by omega
  have q4 : (1 : Int) ≤ cm := by omega
  have q5 : (cm : Int) + 1 ≤ (s.size : Int) - 1 := by omega
  have q6 : (s.size : Int) - 1 ≤ s.size := by omega
  have q7 : (0 : Int) ≤ (s.size : Int) - 1 := by omega
  go_enter Tryz.func86, Tryz.ntmps86
  go_wp2
  go_loopw [4] (fun v wr => ∃ k : Nat, v = .int .i64 k ∧ k ≤ cm ∧ wr = w.alloc (Obj.cells #[.int .i64 0, .int .i64 0, .bool false] 148)) (fun v _ => cm - (ivR v).toNat)
  case atStart => exact ⟨0, rfl, Nat.zero_le _, rfl⟩
  case round =>
    obtain ⟨k, rfl, hk, rfl⟩ := hrel
    by_cases hlt : k < cm
    · have hks : k < s.size := by omega
      have c1 : (k : Int) < s.size := by omega
      have n44 := hne.out k hks hlt
      have b44 : ((s[k].toNat : Int) != 44) = true := by simp; omega
      have n44' : ¬ ((s[k].toNat : Nat) : Int) = 44 := by omega
      go_wp2
      exact ⟨⟨k + 1, by go_num, by omega, trivial⟩, by simp [ivR]; omega⟩
    · have hke : k = cm := by omega
      subst hke
      have hcs : k < s.size := by omega
      have c1 : (k : Int) < s.size := by omega
      have h44 := heq.out hcs
      have h44' : ((s[k].toNat : Nat) : Int) = 44 := by omega
      have z0 : 0 < s.size := by omega
      have z0' : (0 : Int) < s.size := by omega
      go_wp2_with fail
      refine (NA.out _).mono ?_
      rintro e w1 ⟨rfl, rfl⟩
      go_wp2_with fail
      refine (NB.out _).mono ?_
      rintro e w1 ⟨rfl, rfl⟩
      go_wp2
      refine bodyPost_ret (by simp [results, Tryz.results86, go_sem]; try rfl) rfl ?_
      exact ⟨⟨_, _, _, rfl⟩, (Below.refl _ w).alloc (Nat.le_refl _) _⟩
set_option maxRecDepth 100000 in
set_option maxHeartbeats 4000000 in
theorem ends_6 (s A B : ByteArray) (cm : Nat) (a b : Int) (oa ob : Bool) (w : World) (hs : s.size ≤ 16384) (hcm : cm ≤ s.size)
    (hne : Hid (∀ i (hi : i < s.size), i < cm → ¬ s[i].toNat = 44)) (heq : Hid (∀ h : cm < s.size, s[cm].toNat = 44))
    (NA : Hid (∀ W : World, Calls Tryz.prog 90 #[.string A, .int .i64 1099511627776] W fun e w' => e = .returned (.tuple #[.int .i64 a, .bool oa]) ∧ w' = W))
    (NB : Hid (∀ W : World, Calls Tryz.prog 90 #[.string B, .int .i64 1099511627776] W fun e w' => e = .returned (.tuple #[.int .i64 b, .bool ob]) ∧ w' = W)) (h : 5 ≤ s.size) (h1 : cm + 3 ≤ s.size) (h91 : ∀ h0 : 0 < s.size, s[0].toNat = 91) (h93 : ∀ h0 : 0 < s.size, (s[s.size - 1]'(by omega)).toNat = 93) (eA : s.extract 1 cm = A) (eB : s.extract (cm + 1) (s.size - 1) = B) (h1c : 1 ≤ cm) (ho : oa = true) (hB : ¬ B = ⟨#[42]⟩) (hp : ob = true) (hab : b < a) :
    Calls Tryz.prog 86 #[.string s] w fun e w' => EndsOut e false ∧ Below w.heap.size w w' := by
  subst ho
  subst hp
  have hB1 : (B.toList == [42]) = false := beq_eq_false_iff_ne.mpr (fun h => hB (by rw [ByteArray.toList_eq] at h; exact ba_eq h))
  have q1 : ¬ (s.size : Int) < 5 := by omega
  have q2 : ¬ (s.size : Int) - 3 < cm := by omega
  have e0 : ((s[0].toNat : Nat) : Int) = 91 := by have := h91 (by omega); omega
  have e1 : (((s[s.size - 1]'(by omega)).toNat : Nat) : Int) = 93 := by have := h93 (by omega); omega
  have q3 : (cm : Int) ≤ s.size := by omega
  have q4 : (1 : Int) ≤ cm := by omega
  have q5 : (cm : Int) + 1 ≤ (s.size : Int) - 1 := by omega
  have q6 : (s.size : Int) - 1 ≤ s.size := by omega
  have q7 : (0 : Int) ≤ (s.size : Int) - 1 := by omega
  go_enter Tryz.func86, Tryz.ntmps86
  go_wp2
  go_loopw [4] (fun v wr => ∃ k : Nat, v = .int .i64 k ∧ k ≤ cm ∧ wr = w.alloc (Obj.cells #[.int .i64 0, .int .i64 0, .bool false] 148)) (fun v _ => cm - (ivR v).toNat)
  case atStart => exact ⟨0, rfl, Nat.zero_le _, rfl⟩
  case round =>
    obtain ⟨k, rfl, hk, rfl⟩ := hrel
    by_cases hlt : k < cm
    · have hks : k < s.size := by omega
      have c1 : (k : Int) < s.size := by omega
      have n44 := hne.out k hks hlt
      have b44 : ((s[k].toNat : Int) != 44) = true := by simp; omega
      have n44' : ¬ ((s[k].toNat : Nat) : Int) = 44 := by omega
      go_wp2
      exact ⟨⟨k + 1, by go_num, by omega, trivial⟩, by simp [ivR]; omega⟩
    · have hke : k = cm := by omega
      subst hke
      have hcs : k < s.size := by omega
      have c1 : (k : Int) < s.size := by omega
      have h44 := heq.out hcs
      have h44' : ((s[k].toNat : Nat) : Int) = 44 := by omega
      have z0 : 0 < s.size := by omega
      have z0' : (0 : Int) < s.size := by omega
      go_wp2_with fail
      refine (NA.out _).mono ?_
      rintro e w1 ⟨rfl, rfl⟩
      go_wp2_with fail
      refine (NB.out _).mono ?_
      rintro e w1 ⟨rfl, rfl⟩
      go_wp2
      refine bodyPost_ret (by simp [results, Tryz.results86, go_sem]; try rfl) rfl ?_
      exact ⟨⟨_, _, _, rfl⟩, (Below.refl _ w).alloc (Nat.le_refl _) _⟩
theorem cutC_notin : ∀ (l : List UInt8), (cutC l).2.2 = false → ∀ c ∈ l, c.toNat ≠ 44
  | [], _, c, hc => by cases hc
  | a :: r, h, c, hc => by
    unfold cutC at h
    by_cases ha : a.toNat = 44
    · rw [if_pos ha] at h; cases h
    · rw [if_neg ha] at h
      rcases List.mem_cons.1 hc with e | e
      · rw [e]; exact ha
      · exact cutC_notin r h c e
theorem cutC_fst : ∀ (l : List UInt8), ∀ c ∈ (cutC l).1, c.toNat ≠ 44
  | [], c, hc => by simp [cutC] at hc
  | a :: r, c, hc => by
    unfold cutC at hc
    by_cases ha : a.toNat = 44
    · rw [if_pos ha] at hc; simp at hc
    · rw [if_neg ha] at hc
      simp only [List.mem_cons] at hc
      rcases hc with e | e
      · rw [e]; exact ha
      · exact cutC_fst r c e
theorem numB_nil : (numB []).2 = false := by
  rw [numB_no [] (fun n h => by simp [refN] at h)]
/-- Ends at an interval's text. -/
theorem rends_any (s : ByteArray) (l : List UInt8) (w : World) (hs : s.size ≤ 16384) (hl : s.data.toList = 91 :: (l ++ [93])) :
    Calls Tryz.prog 86 #[.string s] w fun e w' => EndsOut e (ivB l) ∧ Below w.heap.size w w' := by
  have hlen : s.data.toList.length = s.size := by simp
  have hsz : s.size = l.length + 2 := by rw [← hlen, hl]; simp
  have get : ∀ i (hi : i < s.size), s[i] = (91 :: (l ++ [93]))[i]'(by simp; omega) := by
    intro i hi
    have : s[i] = s.data.toList[i]'(by omega) := rfl
    rw [this]
    simp only [hl]
  have h91 : ∀ h0 : 0 < s.size, s[0].toNat = 91 := fun h0 => by rw [get 0 h0]; rfl
  have h93 : ∀ h0 : 0 < s.size, (s[s.size - 1]'(by omega)).toNat = 93 := fun h0 => by
    rw [get _ (by omega)]
    have e : s.size - 1 = l.length + 1 := by omega
    simp [e]
  have N0 : ∀ (t : ByteArray) (W : World), Calls Tryz.prog 90 #[.string t, .int .i64 1099511627776] W fun e w' => e = .returned (.tuple #[.int .i64 (numR t.data.toList 1099511627776).1, .bool (numR t.data.toList 1099511627776).2]) ∧ w' = W := fun t W => rnumber_any t _ W
  unfold ivB
  cases hc : (cutC l).2.2
  · have hno : ∀ c ∈ l, c.toNat ≠ 44 := cutC_notin l hc
    have hne : ∀ i (hi : i < s.size), i < s.size → ¬ s[i].toNat = 44 := by
      intro i hi _ h
      rw [get i hi] at h
      have hm : (91 :: (l ++ [93]))[i]'(by simp; omega) ∈ (91 :: (l ++ [93])) := List.getElem_mem _
      rcases List.mem_cons.1 hm with hm | hm
      · rw [hm] at h; exact absurd h (by decide)
      · rcases List.mem_append.1 hm with hm | hm
        · exact hno _ hm h
        · rw [List.mem_singleton.1 hm] at h; exact absurd h (by decide)
    simp only [Bool.false_and]
    by_cases h5 : s.size < 5
    · exact ends_0 s s s s.size _ _ _ _ w hs (Nat.le_refl _) hne (fun h => absurd h (Nat.lt_irrefl _)) (N0 s) (N0 s) h5
    · exact ends_1 s s s s.size _ _ _ _ w hs (Nat.le_refl _) hne (fun h => absurd h (Nat.lt_irrefl _)) (N0 s) (N0 s) (by omega) (by omega)
  · obtain ⟨hcut, -⟩ := cutC_yes l hc
    have hfst := cutC_fst l
    generalize (cutC l).1 = A at hcut hfst
    generalize (cutC l).2.1 = B at hcut
    have hszl : s.size = A.length + B.length + 3 := by rw [hsz, hcut]; simp; omega
    have hl2 : s.data.toList = 91 :: (A ++ (44 :: (B ++ [93]))) := by rw [hl, hcut]; simp
    have hne : ∀ i (hi : i < s.size), i < A.length + 1 → ¬ s[i].toNat = 44 := by
      intro i hi h1 h
      have e : s[i] = s.data.toList[i]'(by omega) := rfl
      rw [e] at h
      simp only [hl2] at h
      cases i with
      | zero => exact absurd (show (91 : UInt8).toNat = 44 from h) (by decide)
      | succ i =>
        rw [List.getElem_cons_succ, List.getElem_append_left (by omega)] at h
        exact hfst _ (List.getElem_mem _) h
    have heq : ∀ h : A.length + 1 < s.size, s[A.length + 1].toNat = 44 := by
      intro h
      have e : s[A.length + 1] = s.data.toList[A.length + 1]'(by omega) := rfl
      rw [e]
      simp only [hl2]
      rw [List.getElem_cons_succ, List.getElem_append_right (Nat.le_refl _)]
      simp
    have eA : s.extract 1 (A.length + 1) = ⟨A.toArray⟩ := ba_eq (by rw [ext_mid, hl2]; simp)
    have eB : s.extract (A.length + 1 + 1) (s.size - 1) = ⟨B.toArray⟩ := ba_eq (by
      rw [ext_mid, hl2, show s.size - 1 - (A.length + 1 + 1) = B.length by omega]
      simp)
    have NA := N0 ⟨A.toArray⟩
    have NB := N0 ⟨B.toArray⟩
    simp only [Bool.true_and]
    by_cases h5 : s.size < 5
    · have hf : ((numB A).2 && (decide (B = [42]) || ((numB B).2 && decide ((numB A).1.n ≤ (numB B).1.n)))) = false := by
        cases A with
        | nil => rw [numB_nil]; rfl
        | cons a A =>
          have hB : B = [] := List.length_eq_zero_iff.mp (by simp at hszl; omega)
          subst hB
          rw [numB_nil]
          simp
      rw [hf]
      exact ends_0 s _ _ (A.length + 1) _ _ _ _ w hs (by omega) hne heq NA NB h5
    · by_cases h3 : s.size < A.length + 1 + 3
      · have hB : B = [] := List.length_eq_zero_iff.mp (by omega)
        have hf : ((numB A).2 && (decide (B = [42]) || ((numB B).2 && decide ((numB A).1.n ≤ (numB B).1.n)))) = false := by
          subst hB
          rw [numB_nil]
          simp
        rw [hf]
        exact ends_1 s _ _ (A.length + 1) _ _ _ _ w hs (by omega) hne heq NA NB (by omega) h3
      · obtain ⟨a1, a2⟩ := numR_B A
        obtain ⟨b1, b2⟩ := numR_B B
        cases ha : (numB A).2
        · exact ends_2 s _ _ (A.length + 1) _ _ _ _ w hs (by omega) hne heq NA NB (by omega) (by omega) h91 h93 eA eB (by omega) (a1.trans ha)
        · have ha2 := a2 ha
          by_cases hB : B = [42]
          · rw [decide_eq_true hB]
            subst hB
            exact ends_3 s _ _ (A.length + 1) _ _ _ _ w hs (by omega) hne heq NA NB (by omega) (by omega) h91 h93 eA eB (by omega) (a1.trans ha) rfl
          · have hB' : ¬ (⟨B.toArray⟩ : ByteArray) = ⟨#[42]⟩ := by
              intro h
              apply hB
              have := congrArg (fun x : ByteArray => x.data.toList) h
              simpa using this
            rw [decide_eq_false hB]
            cases hb : (numB B).2
            · exact ends_4 s _ _ (A.length + 1) _ _ _ _ w hs (by omega) hne heq NA NB (by omega) (by omega) h91 h93 eA eB (by omega) (a1.trans ha) hB' (b1.trans hb)
            · have hb2 := b2 hb
              have ea : (numB A).1.n = (numR A 1099511627776).1 := by rw [ha2]
              have eb : (numB B).1.n = (numR B 1099511627776).1 := by rw [hb2]
              rw [ea, eb]
              by_cases hab : (numR A 1099511627776).1 ≤ (numR B 1099511627776).1
              · rw [decide_eq_true hab]
                exact ends_5 s _ _ (A.length + 1) _ _ _ _ w hs (by omega) hne heq NA NB (by omega) (by omega) h91 h93 eA eB (by omega) (a1.trans ha) hB' (b1.trans hb) hab
              · rw [decide_eq_false hab]
                exact ends_6 s _ _ (A.length + 1) _ _ _ _ w hs (by omega) hne heq NA NB (by omega) (by omega) h91 h93 eA eB (by omega) (a1.trans ha) hB' (b1.trans hb) (show (numR B 1099511627776).1 < (numR A 1099511627776).1 by omega)
end Go.Proofs.YticmebamclacaaaGreatDoor

namespace Go.Proofs.YticmebamclacaaaGreatDoor
open Go.RowKit Go.Shelf LX
set_option linter.unusedVariables false

set_option maxRecDepth 100000 in
set_option maxHeartbeats 4000000 in
theorem rvalued (x S : ByteArray) (i k n d E : Int) (w : World)
    (PA : Hid (∀ W : World, Calls Tryz.prog 107 #[.string x] W fun e w' => e = .returned (.tuple #[.agg #[.int .i64 k, .int .i64 n, .int .i64 d, .string S], .int .i64 E]) ∧ Below W.heap.size W w')) :
    Calls Tryz.prog 88 #[.string x, .int .i64 i] w fun e w' => e = .returned (.tuple #[.agg #[.int .i64 6, .int .i64 i, .string x, .int .i64 k, .int .i64 n, .int .i64 d, .string S], .bool (decide (E = 0))]) ∧ Below w.heap.size w w' := by
  go_enter Tryz.func88, Tryz.ntmps88
  go_wp2_with fail
  refine (PA.out _).mono ?_
  rintro e w1 ⟨rfl, hb1⟩
  have R1 : Hid (BlkT w1 w.heap.size 0 0 ⟨#[]⟩ 0 0 0 ⟨#[]⟩) := BlkT.below (by constructor <;> simp (maxDischargeDepth := 16) [go_sem]) hb1 (by simp)
  have B1 : Below w.heap.size w w1 := ((Below.refl _ w).alloc (Nat.le_refl _) _).trans (hb1.mono (by simp))
  have z1 : w.heap.size < w1.heap.size := by have := hb1.size; simp at this; omega
  clear hb1
  go_upto_region 2 with fail
  refine wp_world ?_
  intro W2 hW2
  have R2 : Hid (BlkT W2 w.heap.size 0 0 ⟨#[]⟩ 0 0 0 ⟨#[]⟩) := by rw [hW2]; exact R1.out.below ((Below.refl w1.heap.size w1).alloc (Nat.le_refl _) _) z1
  have V2 : Hid (BlkV W2 w1.heap.size k n d S) := by rw [hW2]; constructor <;> simp (maxDischargeDepth := 12) [go_sem]
  have B2 : Below w.heap.size w W2 := by rw [hW2]; exact B1.alloc B1.size _
  clear hW2 R1 B1 z1
  obtain ⟨r0, r1, r2, r3, r4, r5, r6, q0, q1, q2, q3, q4, q5, q6⟩ := R2.out
  obtain ⟨v0, v1, v2, v3, -, -, -, -⟩ := V2.out
  go_wp2
  generalize hW9 : World.setCell _ _ _ = W9
  have b9 : BlkT W9 w.heap.size 6 i x k n d S := by rw [← hW9]; exact R2.out.seven
  have hB9 : Below w.heap.size w W9 := by rw [← hW9]; exact below7 B2 (Nat.le_refl _) _ _ _ _ _ _ _
  clear hW9
  obtain ⟨x0, x1, x2, x3, x4, x5, x6, -, -, -, -, -, -, -⟩ := b9
  refine bodyPost_ret (by simp [results, Tryz.results88, go_sem, x0, x1, x2, x3, x4, x5, x6]; try rfl) rfl ?_
  exact ⟨rfl, hB9⟩
set_option maxRecDepth 100000 in
set_option maxHeartbeats 4000000 in
theorem rnum_a (s x S : ByteArray) (i D E2 : Nat) (k n d : Int) (ok : Bool) (w : World) (hs : s.size ≤ 16384) (hi : i < s.size) (hD : i + 1 ≤ D) (hDs : D ≤ s.size)
    (DI : Hid (∀ W : World, Calls Tryz.prog 89 #[.string s, .int .i64 ((i + 1 : Nat) : Int)] W fun e w' => e = .returned (.int .i64 D) ∧ w' = W))
    (VA : Hid (∀ W : World, Calls Tryz.prog 88 #[.string x, .int .i64 i] W fun e w' => e = .returned (.tuple #[.agg #[.int .i64 6, .int .i64 i, .string x, .int .i64 k, .int .i64 n, .int .i64 d, .string S], .bool ok]) ∧ Below W.heap.size W w')) (hx : s.extract i D = x) (h : s.size ≤ D + 1) :
    Calls Tryz.prog 84 #[.string s, .int .i64 i] w fun e w' => e = .returned (.tuple #[.agg #[.int .i64 6, .int .i64 i, .string x, .int .i64 k, .int .i64 n, .int .i64 d, .string S], .bool ok]) ∧ Below w.heap.size w w' := by
  have g1 : (i : Int) ≤ D := by omega
  have g2 : (D : Int) ≤ s.size := by omega
  have c1 : ¬ (D : Int) + 1 < s.size := by omega
  go_enter Tryz.func84, Tryz.ntmps84
  go_wp2_with fail
  refine (DI.out _).mono ?_
  rintro e w1 ⟨rfl, rfl⟩
  go_wp2_with fail
  refine (VA.out _).mono ?_
  rintro e w1 ⟨rfl, hb1⟩
  have R1 : Hid (BlkT w1 w.heap.size 0 0 ⟨#[]⟩ 0 0 0 ⟨#[]⟩) := BlkT.below (by constructor <;> simp (maxDischargeDepth := 16) [go_sem]) hb1 (by simp)
  have B1 : Below w.heap.size w w1 := ((Below.refl _ w).alloc (Nat.le_refl _) _).trans (hb1.mono (by simp))
  clear hb1
  obtain ⟨r0, r1, r2, r3, r4, r5, r6, q0, q1, q2, q3, q4, q5, q6⟩ := R1.out
  go_wp2
  generalize hW9 : World.setCell _ _ _ = W9
  have b9 : BlkT W9 w.heap.size 6 i x k n d S := by rw [← hW9]; exact R1.out.seven
  have hB9 : Below w.heap.size w W9 := by rw [← hW9]; exact below7 B1 (Nat.le_refl _) _ _ _ _ _ _ _
  clear hW9
  obtain ⟨x0, x1, x2, x3, x4, x5, x6, -, -, -, -, -, -, -⟩ := b9
  refine bodyPost_ret (by simp [results, Tryz.results84, go_sem, x0, x1, x2, x3, x4, x5, x6]; try rfl) rfl ?_
  exact ⟨rfl, hB9⟩
set_option maxRecDepth 100000 in
set_option maxHeartbeats 4000000 in
theorem rnum_b (s x S : ByteArray) (i D E2 : Nat) (k n d : Int) (ok : Bool) (w : World) (hs : s.size ≤ 16384) (hi : i < s.size) (hD : i + 1 ≤ D) (hDs : D ≤ s.size)
    (DI : Hid (∀ W : World, Calls Tryz.prog 89 #[.string s, .int .i64 ((i + 1 : Nat) : Int)] W fun e w' => e = .returned (.int .i64 D) ∧ w' = W))
    (VA : Hid (∀ W : World, Calls Tryz.prog 88 #[.string x, .int .i64 i] W fun e w' => e = .returned (.tuple #[.agg #[.int .i64 6, .int .i64 i, .string x, .int .i64 k, .int .i64 n, .int .i64 d, .string S], .bool ok]) ∧ Below W.heap.size W w')) (hx : s.extract i D = x) (h : D + 1 < s.size) (h47 : ¬ s[D].toNat = 47) :
    Calls Tryz.prog 84 #[.string s, .int .i64 i] w fun e w' => e = .returned (.tuple #[.agg #[.int .i64 6, .int .i64 i, .string x, .int .i64 k, .int .i64 n, .int .i64 d, .string S], .bool ok]) ∧ Below w.heap.size w w' := by
  have g1 : (i : Int) ≤ D := by omega
  have g2 : (D : Int) ≤ s.size := by omega
  have c1 : (D : Int) + 1 < s.size := by omega
  have c0 : D < s.size := by omega
  have c0' : (D : Int) < s.size := by omega
  have c2 : ((s[D].toNat : Int) == 47) = false := beq_eq_false_iff_ne.mpr (by omega)
  have c3 : ¬ ((s[D].toNat : Nat) : Int) = 47 := by omega
  go_enter Tryz.func84, Tryz.ntmps84
  go_wp2_with fail
  refine (DI.out _).mono ?_
  rintro e w1 ⟨rfl, rfl⟩
  go_wp2_with fail
  refine (VA.out _).mono ?_
  rintro e w1 ⟨rfl, hb1⟩
  have R1 : Hid (BlkT w1 w.heap.size 0 0 ⟨#[]⟩ 0 0 0 ⟨#[]⟩) := BlkT.below (by constructor <;> simp (maxDischargeDepth := 16) [go_sem]) hb1 (by simp)
  have B1 : Below w.heap.size w w1 := ((Below.refl _ w).alloc (Nat.le_refl _) _).trans (hb1.mono (by simp))
  clear hb1
  obtain ⟨r0, r1, r2, r3, r4, r5, r6, q0, q1, q2, q3, q4, q5, q6⟩ := R1.out
  go_wp2
  generalize hW9 : World.setCell _ _ _ = W9
  have b9 : BlkT W9 w.heap.size 6 i x k n d S := by rw [← hW9]; exact R1.out.seven
  have hB9 : Below w.heap.size w W9 := by rw [← hW9]; exact below7 B1 (Nat.le_refl _) _ _ _ _ _ _ _
  clear hW9
  obtain ⟨x0, x1, x2, x3, x4, x5, x6, -, -, -, -, -, -, -⟩ := b9
  refine bodyPost_ret (by simp [results, Tryz.results84, go_sem, x0, x1, x2, x3, x4, x5, x6]; try rfl) rfl ?_
  exact ⟨rfl, hB9⟩
set_option maxRecDepth 100000 in
set_option maxHeartbeats 4000000 in
theorem rnum_c (s x S : ByteArray) (i D E2 : Nat) (k n d : Int) (ok : Bool) (w : World) (hs : s.size ≤ 16384) (hi : i < s.size) (hD : i + 1 ≤ D) (hDs : D ≤ s.size)
    (DI : Hid (∀ W : World, Calls Tryz.prog 89 #[.string s, .int .i64 ((i + 1 : Nat) : Int)] W fun e w' => e = .returned (.int .i64 D) ∧ w' = W))
    (VA : Hid (∀ W : World, Calls Tryz.prog 88 #[.string x, .int .i64 i] W fun e w' => e = .returned (.tuple #[.agg #[.int .i64 6, .int .i64 i, .string x, .int .i64 k, .int .i64 n, .int .i64 d, .string S], .bool ok]) ∧ Below W.heap.size W w')) (hx : s.extract i D = x) (h : D + 1 < s.size) (h47 : s[D].toNat = 47) (hP : digN s[D + 1].toNat = false) :
    Calls Tryz.prog 84 #[.string s, .int .i64 i] w fun e w' => e = .returned (.tuple #[.agg #[.int .i64 6, .int .i64 i, .string x, .int .i64 k, .int .i64 n, .int .i64 d, .string S], .bool ok]) ∧ Below w.heap.size w w' := by
  have g1 : (i : Int) ≤ D := by omega
  have g2 : (D : Int) ≤ s.size := by omega
  have c1 : (D : Int) + 1 < s.size := by omega
  have c0 : D < s.size := by omega
  have c0' : (D : Int) < s.size := by omega
  have c3 : ((s[D].toNat : Nat) : Int) = 47 := by omega
  have DP : Hid (∀ (v : Int) (W : World), v = (s[D + 1].toNat : Int) → Calls Tryz.prog 83 #[.int .u8 v] W fun x w' => x = .returned (.bool false) ∧ w' = W) := fun v W h => by
    rw [h]; have q := rdigit_any s[D + 1].toNat W s[D + 1].toNat_lt; rw [hP] at q; exact q
  go_enter Tryz.func84, Tryz.ntmps84
  go_wp2_with fail
  refine (DI.out _).mono ?_
  rintro e w1 ⟨rfl, rfl⟩
  go_wp2_with fail
  refine (DP.out _ _ (by omega)).mono ?_
  rintro e w1 ⟨rfl, rfl⟩
  go_wp2_with fail
  refine (VA.out _).mono ?_
  rintro e w1 ⟨rfl, hb1⟩
  have R1 : Hid (BlkT w1 w.heap.size 0 0 ⟨#[]⟩ 0 0 0 ⟨#[]⟩) := BlkT.below (by constructor <;> simp (maxDischargeDepth := 16) [go_sem]) hb1 (by simp)
  have B1 : Below w.heap.size w w1 := ((Below.refl _ w).alloc (Nat.le_refl _) _).trans (hb1.mono (by simp))
  clear hb1
  obtain ⟨r0, r1, r2, r3, r4, r5, r6, q0, q1, q2, q3, q4, q5, q6⟩ := R1.out
  go_wp2
  generalize hW9 : World.setCell _ _ _ = W9
  have b9 : BlkT W9 w.heap.size 6 i x k n d S := by rw [← hW9]; exact R1.out.seven
  have hB9 : Below w.heap.size w W9 := by rw [← hW9]; exact below7 B1 (Nat.le_refl _) _ _ _ _ _ _ _
  clear hW9
  obtain ⟨x0, x1, x2, x3, x4, x5, x6, -, -, -, -, -, -, -⟩ := b9
  refine bodyPost_ret (by simp [results, Tryz.results84, go_sem, x0, x1, x2, x3, x4, x5, x6]; try rfl) rfl ?_
  exact ⟨rfl, hB9⟩
set_option maxRecDepth 100000 in
set_option maxHeartbeats 4000000 in
theorem rnum_d (s x S : ByteArray) (i D E2 : Nat) (k n d : Int) (ok : Bool) (w : World) (hs : s.size ≤ 16384) (hi : i < s.size) (hD : i + 1 ≤ D) (hDs : D ≤ s.size)
    (DI : Hid (∀ W : World, Calls Tryz.prog 89 #[.string s, .int .i64 ((i + 1 : Nat) : Int)] W fun e w' => e = .returned (.int .i64 D) ∧ w' = W))
    (VA : Hid (∀ W : World, Calls Tryz.prog 88 #[.string x, .int .i64 i] W fun e w' => e = .returned (.tuple #[.agg #[.int .i64 6, .int .i64 i, .string x, .int .i64 k, .int .i64 n, .int .i64 d, .string S], .bool ok]) ∧ Below W.heap.size W w')) (h : D + 1 < s.size) (h47 : s[D].toNat = 47) (hP : digN s[D + 1].toNat = true) (hE : D ≤ E2) (hEs : E2 ≤ s.size) (hx : s.extract i E2 = x)
    (DJ : Hid (∀ W : World, Calls Tryz.prog 89 #[.string s, .int .i64 ((D + 1 : Nat) : Int)] W fun e w' => e = .returned (.int .i64 E2) ∧ w' = W)) :
    Calls Tryz.prog 84 #[.string s, .int .i64 i] w fun e w' => e = .returned (.tuple #[.agg #[.int .i64 6, .int .i64 i, .string x, .int .i64 k, .int .i64 n, .int .i64 d, .string S], .bool ok]) ∧ Below w.heap.size w w' := by
  have g1 : (i : Int) ≤ D := by omega
  have g2 : (D : Int) ≤ s.size := by omega
  have c1 : (D : Int) + 1 < s.size := by omega
  have c0 : D < s.size := by omega
  have c0' : (D : Int) < s.size := by omega
  have c3 : ((s[D].toNat : Nat) : Int) = 47 := by omega
  have g3 : (i : Int) ≤ E2 := by omega
  have g4 : (E2 : Int) ≤ s.size := by omega
  have DP : Hid (∀ (v : Int) (W : World), v = (s[D + 1].toNat : Int) → Calls Tryz.prog 83 #[.int .u8 v] W fun x w' => x = .returned (.bool true) ∧ w' = W) := fun v W h => by
    rw [h]; have q := rdigit_any s[D + 1].toNat W s[D + 1].toNat_lt; rw [hP] at q; exact q
  go_enter Tryz.func84, Tryz.ntmps84
  go_wp2_with fail
  refine (DI.out _).mono ?_
  rintro e w1 ⟨rfl, rfl⟩
  go_wp2_with fail
  refine (DP.out _ _ (by omega)).mono ?_
  rintro e w1 ⟨rfl, rfl⟩
  go_wp2_with fail
  refine (DJ.out _).mono ?_
  rintro e w1 ⟨rfl, rfl⟩
  go_wp2_with fail
  refine (VA.out _).mono ?_
  rintro e w1 ⟨rfl, hb1⟩
  have R1 : Hid (BlkT w1 w.heap.size 0 0 ⟨#[]⟩ 0 0 0 ⟨#[]⟩) := BlkT.below (by constructor <;> simp (maxDischargeDepth := 16) [go_sem]) hb1 (by simp)
  have B1 : Below w.heap.size w w1 := ((Below.refl _ w).alloc (Nat.le_refl _) _).trans (hb1.mono (by simp))
  clear hb1
  obtain ⟨r0, r1, r2, r3, r4, r5, r6, q0, q1, q2, q3, q4, q5, q6⟩ := R1.out
  go_wp2
  generalize hW9 : World.setCell _ _ _ = W9
  have b9 : BlkT W9 w.heap.size 6 i x k n d S := by rw [← hW9]; exact R1.out.seven
  have hB9 : Below w.heap.size w W9 := by rw [← hW9]; exact below7 B1 (Nat.le_refl _) _ _ _ _ _ _ _
  clear hW9
  obtain ⟨x0, x1, x2, x3, x4, x5, x6, -, -, -, -, -, -, -⟩ := b9
  refine bodyPost_ret (by simp [results, Tryz.results84, go_sem, x0, x1, x2, x3, x4, x5, x6]; try rfl) rfl ?_
  exact ⟨rfl, hB9⟩
end Go.Proofs.YticmebamclacaaaGreatDoor

namespace Go.Proofs.YticmebamclacaaaGreatDoor
open Go.RowKit Go.Shelf LX
set_option linter.unusedVariables false

set_option maxRecDepth 100000 in
set_option maxHeartbeats 4000000 in
theorem one_40 (s x S : ByteArray) (i m : Nat) (k n d : Int) (ok : Bool) (w : World) (hs : s.size ≤ 16384) (hi : i < s.size) (h : s[i].toNat = 40) :
    Calls Tryz.prog 59 #[.string s, .int .i64 i] w fun e w' => e = .returned (.tuple #[.agg #[.int .i64 1, .int .i64 i, .string ⟨#[40]⟩, .int .i64 0, .int .i64 0, .int .i64 0, .string ⟨#[]⟩], .bool true]) ∧ Below w.heap.size w w' := by
  have hi' : (i : Int) < s.size := by omega
  have h40' : ((s[i].toNat : Nat) : Int) = 40 := by omega
  go_enter Tryz.func59, Tryz.ntmps59
  go_wp2
  refine bodyPost_ret (by simp [results, Tryz.results59, go_sem]; try rfl) rfl ?_
  exact ⟨rfl, (Below.refl _ w).alloc (Nat.le_refl _) _⟩
set_option maxRecDepth 100000 in
set_option maxHeartbeats 4000000 in
theorem one_41 (s x S : ByteArray) (i m : Nat) (k n d : Int) (ok : Bool) (w : World) (hs : s.size ≤ 16384) (hi : i < s.size) (h : s[i].toNat = 41) :
    Calls Tryz.prog 59 #[.string s, .int .i64 i] w fun e w' => e = .returned (.tuple #[.agg #[.int .i64 2, .int .i64 i, .string ⟨#[41]⟩, .int .i64 0, .int .i64 0, .int .i64 0, .string ⟨#[]⟩], .bool true]) ∧ Below w.heap.size w w' := by
  have hi' : (i : Int) < s.size := by omega
  have h41' : ((s[i].toNat : Nat) : Int) = 41 := by omega
  have n40 : ¬ ((s[i].toNat : Nat) : Int) = 40 := by omega
  go_enter Tryz.func59, Tryz.ntmps59
  go_wp2
  refine bodyPost_ret (by simp [results, Tryz.results59, go_sem]; try rfl) rfl ?_
  exact ⟨rfl, (Below.refl _ w).alloc (Nat.le_refl _) _⟩
set_option maxRecDepth 100000 in
set_option maxHeartbeats 4000000 in
theorem one_word (s x S : ByteArray) (i m : Nat) (k n d : Int) (ok : Bool) (w : World) (hs : s.size ≤ 16384) (hi : i < s.size) (hA : lowN s[i].toNat = true) (hm : i ≤ m) (hms : m ≤ s.size) (hx : s.extract i m = x)
    (WO : Hid (∀ W : World, Calls Tryz.prog 82 #[.string s, .int .i64 i] W fun e w' => e = .returned (.int .i64 m) ∧ w' = W)) :
    Calls Tryz.prog 59 #[.string s, .int .i64 i] w fun e w' => e = .returned (.tuple #[.agg #[.int .i64 3, .int .i64 i, .string x, .int .i64 0, .int .i64 0, .int .i64 0, .string ⟨#[]⟩], .bool (decide ((m : Int) - i ≤ 16))]) ∧ Below w.heap.size w w' := by
  have hi' : (i : Int) < s.size := by omega
  have hAA : 97 ≤ s[i].toNat ∧ s[i].toNat ≤ 122 := by simpa [lowN] using hA
  have g1 : (i : Int) ≤ m := by omega
  have g2 : (m : Int) ≤ s.size := by omega
  have n40 : ¬ ((s[i].toNat : Nat) : Int) = 40 := by omega
  have n41 : ¬ ((s[i].toNat : Nat) : Int) = 41 := by omega
  have A : Hid (∀ (v : Int) (W : World), v = (s[i].toNat : Int) → Calls Tryz.prog 81 #[.int .u8 v] W fun e w' => e = .returned (.bool true) ∧ w' = W) := fun v W h => by
    rw [h]; have q := rsmall_any s[i].toNat W s[i].toNat_lt; rw [hA] at q; exact q
  go_enter Tryz.func59, Tryz.ntmps59
  go_wp2_with fail
  refine (A.out _ _ (by omega)).mono ?_
  rintro e w1 ⟨rfl, rfl⟩
  go_wp2_with fail
  refine (WO.out _).mono ?_
  rintro e w1 ⟨rfl, rfl⟩
  go_wp2
  refine bodyPost_ret (by simp [results, Tryz.results59, go_sem]; try rfl) rfl ?_
  first
    | exact ⟨rfl, (Below.refl _ w).alloc (Nat.le_refl _) _⟩
    | exact ⟨by rw [hx], (Below.refl _ w).alloc (Nat.le_refl _) _⟩
set_option maxRecDepth 100000 in
set_option maxHeartbeats 4000000 in
theorem one_le (s x S : ByteArray) (i m : Nat) (k n d : Int) (ok : Bool) (w : World) (hs : s.size ≤ 16384) (hi : i < s.size) (hA : lowN s[i].toNat = false) (h : s[i].toNat = 60) (h1 : i + 1 < s.size) (h61 : s[i + 1].toNat = 61) :
    Calls Tryz.prog 59 #[.string s, .int .i64 i] w fun e w' => e = .returned (.tuple #[.agg #[.int .i64 4, .int .i64 i, .string ⟨#[60, 61]⟩, .int .i64 0, .int .i64 0, .int .i64 0, .string ⟨#[]⟩], .bool true]) ∧ Below w.heap.size w w' := by
  have hi' : (i : Int) < s.size := by omega
  have h60' : ((s[i].toNat : Nat) : Int) = 60 := by omega
  have n40 : ¬ ((s[i].toNat : Nat) : Int) = 40 := by omega
  have n41 : ¬ ((s[i].toNat : Nat) : Int) = 41 := by omega
  have g1 : (i : Int) + 1 < s.size := by omega
  have g2 : ((s[i + 1].toNat : Nat) : Int) = 61 := by omega
  have A : Hid (∀ (v : Int) (W : World), v = (s[i].toNat : Int) → Calls Tryz.prog 81 #[.int .u8 v] W fun e w' => e = .returned (.bool false) ∧ w' = W) := fun v W h => by
    rw [h]; have q := rsmall_any s[i].toNat W s[i].toNat_lt; rw [hA] at q; exact q
  go_enter Tryz.func59, Tryz.ntmps59
  go_wp2_with fail
  refine (A.out _ _ (by omega)).mono ?_
  rintro e w1 ⟨rfl, rfl⟩
  go_wp2
  refine bodyPost_ret (by simp [results, Tryz.results59, go_sem]; try rfl) rfl ?_
  exact ⟨rfl, (Below.refl _ w).alloc (Nat.le_refl _) _⟩
set_option maxRecDepth 100000 in
set_option maxHeartbeats 4000000 in
theorem one_num (s x S : ByteArray) (i m : Nat) (k n d : Int) (ok : Bool) (w : World) (hs : s.size ≤ 16384) (hi : i < s.size) (hA : lowN s[i].toNat = false) (hD : digN s[i].toNat = true)
    (NM : Hid (∀ W : World, Calls Tryz.prog 84 #[.string s, .int .i64 i] W fun e w' => e = .returned (.tuple #[.agg #[.int .i64 6, .int .i64 i, .string x, .int .i64 k, .int .i64 n, .int .i64 d, .string S], .bool ok]) ∧ Below W.heap.size W w')) :
    Calls Tryz.prog 59 #[.string s, .int .i64 i] w fun e w' => e = .returned (.tuple #[.agg #[.int .i64 6, .int .i64 i, .string x, .int .i64 k, .int .i64 n, .int .i64 d, .string S], .bool ok]) ∧ Below w.heap.size w w' := by
  have hi' : (i : Int) < s.size := by omega
  have hDD : 48 ≤ s[i].toNat ∧ s[i].toNat ≤ 57 := by simpa [digN] using hD
  have n40 : ¬ ((s[i].toNat : Nat) : Int) = 40 := by omega
  have n41 : ¬ ((s[i].toNat : Nat) : Int) = 41 := by omega
  have n60 : ¬ ((s[i].toNat : Nat) : Int) = 60 := by omega
  have A : Hid (∀ (v : Int) (W : World), v = (s[i].toNat : Int) → Calls Tryz.prog 81 #[.int .u8 v] W fun e w' => e = .returned (.bool false) ∧ w' = W) := fun v W h => by
    rw [h]; have q := rsmall_any s[i].toNat W s[i].toNat_lt; rw [hA] at q; exact q
  have D : Hid (∀ (v : Int) (W : World), v = (s[i].toNat : Int) → Calls Tryz.prog 83 #[.int .u8 v] W fun e w' => e = .returned (.bool true) ∧ w' = W) := fun v W h => by
    rw [h]; have q := rdigit_any s[i].toNat W s[i].toNat_lt; rw [hD] at q; exact q
  go_enter Tryz.func59, Tryz.ntmps59
  go_wp2_with fail
  refine (A.out _ _ (by omega)).mono ?_
  rintro e w1 ⟨rfl, rfl⟩
  go_wp2_with fail
  refine (D.out _ _ (by omega)).mono ?_
  rintro e w1 ⟨rfl, rfl⟩
  go_wp2_with fail
  refine (NM.out _).mono ?_
  rintro e w1 ⟨rfl, hb1⟩
  have R1 : Hid (BlkT w1 w.heap.size 0 0 ⟨#[]⟩ 0 0 0 ⟨#[]⟩) := BlkT.below (by constructor <;> simp (maxDischargeDepth := 16) [go_sem]) hb1 (by simp)
  have B1 : Below w.heap.size w w1 := ((Below.refl _ w).alloc (Nat.le_refl _) _).trans (hb1.mono (by simp))
  clear hb1
  obtain ⟨r0, r1, r2, r3, r4, r5, r6, q0, q1, q2, q3, q4, q5, q6⟩ := R1.out
  go_wp2
  generalize hW9 : World.setCell _ _ _ = W9
  have b9 : BlkT W9 w.heap.size 6 i x k n d S := by rw [← hW9]; exact R1.out.seven
  have hB9 : Below w.heap.size w W9 := by rw [← hW9]; exact below7 B1 (Nat.le_refl _) _ _ _ _ _ _ _
  clear hW9
  obtain ⟨x0, x1, x2, x3, x4, x5, x6, -, -, -, -, -, -, -⟩ := b9
  refine bodyPost_ret (by simp [results, Tryz.results59, go_sem, x0, x1, x2, x3, x4, x5, x6]; try rfl) rfl ?_
  exact ⟨rfl, hB9⟩
set_option maxRecDepth 100000 in
set_option maxHeartbeats 4000000 in
theorem one_neg (s x S : ByteArray) (i m : Nat) (k n d : Int) (ok : Bool) (w : World) (hs : s.size ≤ 16384) (hi : i < s.size) (hA : lowN s[i].toNat = false) (hD : digN s[i].toNat = false) (h : s[i].toNat = 45) (h1 : i + 1 < s.size) (hP : digN s[i + 1].toNat = true)
    (NM : Hid (∀ W : World, Calls Tryz.prog 84 #[.string s, .int .i64 i] W fun e w' => e = .returned (.tuple #[.agg #[.int .i64 6, .int .i64 i, .string x, .int .i64 k, .int .i64 n, .int .i64 d, .string S], .bool ok]) ∧ Below W.heap.size W w')) :
    Calls Tryz.prog 59 #[.string s, .int .i64 i] w fun e w' => e = .returned (.tuple #[.agg #[.int .i64 6, .int .i64 i, .string x, .int .i64 k, .int .i64 n, .int .i64 d, .string S], .bool ok]) ∧ Below w.heap.size w w' := by
  have hi' : (i : Int) < s.size := by omega
  have h45' : ((s[i].toNat : Nat) : Int) = 45 := by omega
  have n40 : ¬ ((s[i].toNat : Nat) : Int) = 40 := by omega
  have n41 : ¬ ((s[i].toNat : Nat) : Int) = 41 := by omega
  have n60 : ¬ ((s[i].toNat : Nat) : Int) = 60 := by omega
  have g1 : (i : Int) + 1 < s.size := by omega
  have A : Hid (∀ (v : Int) (W : World), v = (s[i].toNat : Int) → Calls Tryz.prog 81 #[.int .u8 v] W fun e w' => e = .returned (.bool false) ∧ w' = W) := fun v W h => by
    rw [h]; have q := rsmall_any s[i].toNat W s[i].toNat_lt; rw [hA] at q; exact q
  have D : Hid (∀ (v : Int) (W : World), v = (s[i].toNat : Int) → Calls Tryz.prog 83 #[.int .u8 v] W fun e w' => e = .returned (.bool false) ∧ w' = W) := fun v W h => by
    rw [h]; have q := rdigit_any s[i].toNat W s[i].toNat_lt; rw [hD] at q; exact q
  have DP : Hid (∀ (v : Int) (W : World), v = (s[i + 1].toNat : Int) → Calls Tryz.prog 83 #[.int .u8 v] W fun x w' => x = .returned (.bool true) ∧ w' = W) := fun v W h => by
    rw [h]; have q := rdigit_any s[i + 1].toNat W s[i + 1].toNat_lt; rw [hP] at q; exact q
  go_enter Tryz.func59, Tryz.ntmps59
  go_wp2_with fail
  refine (A.out _ _ (by omega)).mono ?_
  rintro e w1 ⟨rfl, rfl⟩
  go_wp2_with fail
  refine (D.out _ _ (by omega)).mono ?_
  rintro e w1 ⟨rfl, rfl⟩
  go_wp2_with fail
  refine (DP.out _ _ (by omega)).mono ?_
  rintro e w1 ⟨rfl, rfl⟩
  go_wp2_with fail
  refine (NM.out _).mono ?_
  rintro e w1 ⟨rfl, hb1⟩
  have R1 : Hid (BlkT w1 w.heap.size 0 0 ⟨#[]⟩ 0 0 0 ⟨#[]⟩) := BlkT.below (by constructor <;> simp (maxDischargeDepth := 16) [go_sem]) hb1 (by simp)
  have B1 : Below w.heap.size w w1 := ((Below.refl _ w).alloc (Nat.le_refl _) _).trans (hb1.mono (by simp))
  clear hb1
  obtain ⟨r0, r1, r2, r3, r4, r5, r6, q0, q1, q2, q3, q4, q5, q6⟩ := R1.out
  go_wp2
  generalize hW9 : World.setCell _ _ _ = W9
  have b9 : BlkT W9 w.heap.size 6 i x k n d S := by rw [← hW9]; exact R1.out.seven
  have hB9 : Below w.heap.size w W9 := by rw [← hW9]; exact below7 B1 (Nat.le_refl _) _ _ _ _ _ _ _
  clear hW9
  obtain ⟨x0, x1, x2, x3, x4, x5, x6, -, -, -, -, -, -, -⟩ := b9
  refine bodyPost_ret (by simp [results, Tryz.results59, go_sem, x0, x1, x2, x3, x4, x5, x6]; try rfl) rfl ?_
  exact ⟨rfl, hB9⟩
set_option maxRecDepth 100000 in
set_option maxHeartbeats 4000000 in
theorem one_61 (s x S : ByteArray) (i m : Nat) (k n d : Int) (ok : Bool) (w : World) (hs : s.size ≤ 16384) (hi : i < s.size) (hA : lowN s[i].toNat = false) (hD : digN s[i].toNat = false) (h : s[i].toNat = 61) (hx : s.extract i (i + 1) = x) :
    Calls Tryz.prog 59 #[.string s, .int .i64 i] w fun e w' => e = .returned (.tuple #[.agg #[.int .i64 4, .int .i64 i, .string x, .int .i64 0, .int .i64 0, .int .i64 0, .string ⟨#[]⟩], .bool true]) ∧ Below w.heap.size w w' := by
  have hi' : (i : Int) < s.size := by omega
  have h61' : ((s[i].toNat : Nat) : Int) = 61 := by omega
  have n40 : ¬ ((s[i].toNat : Nat) : Int) = 40 := by omega
  have n41 : ¬ ((s[i].toNat : Nat) : Int) = 41 := by omega
  have n60 : ¬ ((s[i].toNat : Nat) : Int) = 60 := by omega
  have n45 : ¬ ((s[i].toNat : Nat) : Int) = 45 := by omega
  have n43 : ¬ ((s[i].toNat : Nat) : Int) = 43 := by omega
  have n42 : ¬ ((s[i].toNat : Nat) : Int) = 42 := by omega
  have g3 : (i : Int) ≤ (i : Int) + 1 := by omega
  have g4 : (i : Int) + 1 ≤ s.size := by omega
  have A : Hid (∀ (v : Int) (W : World), v = (s[i].toNat : Int) → Calls Tryz.prog 81 #[.int .u8 v] W fun e w' => e = .returned (.bool false) ∧ w' = W) := fun v W h => by
    rw [h]; have q := rsmall_any s[i].toNat W s[i].toNat_lt; rw [hA] at q; exact q
  have D : Hid (∀ (v : Int) (W : World), v = (s[i].toNat : Int) → Calls Tryz.prog 83 #[.int .u8 v] W fun e w' => e = .returned (.bool false) ∧ w' = W) := fun v W h => by
    rw [h]; have q := rdigit_any s[i].toNat W s[i].toNat_lt; rw [hD] at q; exact q
  go_enter Tryz.func59, Tryz.ntmps59
  go_wp2_with fail
  refine (A.out _ _ (by omega)).mono ?_
  rintro e w1 ⟨rfl, rfl⟩
  go_wp2_with fail
  refine (D.out _ _ (by omega)).mono ?_
  rintro e w1 ⟨rfl, rfl⟩
  go_wp2
  refine bodyPost_ret (by simp [results, Tryz.results59, go_sem]; try rfl) rfl ?_
  first
    | exact ⟨rfl, (Below.refl _ w).alloc (Nat.le_refl _) _⟩
    | exact ⟨by rw [hx], (Below.refl _ w).alloc (Nat.le_refl _) _⟩
set_option maxRecDepth 100000 in
set_option maxHeartbeats 4000000 in
theorem one_43 (s x S : ByteArray) (i m : Nat) (k n d : Int) (ok : Bool) (w : World) (hs : s.size ≤ 16384) (hi : i < s.size) (hA : lowN s[i].toNat = false) (hD : digN s[i].toNat = false) (h : s[i].toNat = 43) (hx : s.extract i (i + 1) = x) :
    Calls Tryz.prog 59 #[.string s, .int .i64 i] w fun e w' => e = .returned (.tuple #[.agg #[.int .i64 4, .int .i64 i, .string x, .int .i64 0, .int .i64 0, .int .i64 0, .string ⟨#[]⟩], .bool true]) ∧ Below w.heap.size w w' := by
  have hi' : (i : Int) < s.size := by omega
  have h43' : ((s[i].toNat : Nat) : Int) = 43 := by omega
  have n40 : ¬ ((s[i].toNat : Nat) : Int) = 40 := by omega
  have n41 : ¬ ((s[i].toNat : Nat) : Int) = 41 := by omega
  have n60 : ¬ ((s[i].toNat : Nat) : Int) = 60 := by omega
  have n45 : ¬ ((s[i].toNat : Nat) : Int) = 45 := by omega
  have n61 : ¬ ((s[i].toNat : Nat) : Int) = 61 := by omega
  have n42 : ¬ ((s[i].toNat : Nat) : Int) = 42 := by omega
  have g3 : (i : Int) ≤ (i : Int) + 1 := by omega
  have g4 : (i : Int) + 1 ≤ s.size := by omega
  have A : Hid (∀ (v : Int) (W : World), v = (s[i].toNat : Int) → Calls Tryz.prog 81 #[.int .u8 v] W fun e w' => e = .returned (.bool false) ∧ w' = W) := fun v W h => by
    rw [h]; have q := rsmall_any s[i].toNat W s[i].toNat_lt; rw [hA] at q; exact q
  have D : Hid (∀ (v : Int) (W : World), v = (s[i].toNat : Int) → Calls Tryz.prog 83 #[.int .u8 v] W fun e w' => e = .returned (.bool false) ∧ w' = W) := fun v W h => by
    rw [h]; have q := rdigit_any s[i].toNat W s[i].toNat_lt; rw [hD] at q; exact q
  go_enter Tryz.func59, Tryz.ntmps59
  go_wp2_with fail
  refine (A.out _ _ (by omega)).mono ?_
  rintro e w1 ⟨rfl, rfl⟩
  go_wp2_with fail
  refine (D.out _ _ (by omega)).mono ?_
  rintro e w1 ⟨rfl, rfl⟩
  go_wp2
  refine bodyPost_ret (by simp [results, Tryz.results59, go_sem]; try rfl) rfl ?_
  first
    | exact ⟨rfl, (Below.refl _ w).alloc (Nat.le_refl _) _⟩
    | exact ⟨by rw [hx], (Below.refl _ w).alloc (Nat.le_refl _) _⟩
end Go.Proofs.YticmebamclacaaaGreatDoor

namespace Go.Proofs.YticmebamclacaaaGreatDoor
open Go.RowKit Go.Shelf LX
set_option linter.unusedVariables false

set_option maxRecDepth 100000 in
set_option maxHeartbeats 4000000 in
theorem one_42 (s x S : ByteArray) (i m : Nat) (k n d : Int) (ok : Bool) (w : World) (hs : s.size ≤ 16384) (hi : i < s.size) (hA : lowN s[i].toNat = false) (hD : digN s[i].toNat = false) (h : s[i].toNat = 42) (hx : s.extract i (i + 1) = x) :
    Calls Tryz.prog 59 #[.string s, .int .i64 i] w fun e w' => e = .returned (.tuple #[.agg #[.int .i64 4, .int .i64 i, .string x, .int .i64 0, .int .i64 0, .int .i64 0, .string ⟨#[]⟩], .bool true]) ∧ Below w.heap.size w w' := by
  have hi' : (i : Int) < s.size := by omega
  have h42' : ((s[i].toNat : Nat) : Int) = 42 := by omega
  have n40 : ¬ ((s[i].toNat : Nat) : Int) = 40 := by omega
  have n41 : ¬ ((s[i].toNat : Nat) : Int) = 41 := by omega
  have n60 : ¬ ((s[i].toNat : Nat) : Int) = 60 := by omega
  have n45 : ¬ ((s[i].toNat : Nat) : Int) = 45 := by omega
  have n61 : ¬ ((s[i].toNat : Nat) : Int) = 61 := by omega
  have n43 : ¬ ((s[i].toNat : Nat) : Int) = 43 := by omega
  have g3 : (i : Int) ≤ (i : Int) + 1 := by omega
  have g4 : (i : Int) + 1 ≤ s.size := by omega
  have A : Hid (∀ (v : Int) (W : World), v = (s[i].toNat : Int) → Calls Tryz.prog 81 #[.int .u8 v] W fun e w' => e = .returned (.bool false) ∧ w' = W) := fun v W h => by
    rw [h]; have q := rsmall_any s[i].toNat W s[i].toNat_lt; rw [hA] at q; exact q
  have D : Hid (∀ (v : Int) (W : World), v = (s[i].toNat : Int) → Calls Tryz.prog 83 #[.int .u8 v] W fun e w' => e = .returned (.bool false) ∧ w' = W) := fun v W h => by
    rw [h]; have q := rdigit_any s[i].toNat W s[i].toNat_lt; rw [hD] at q; exact q
  go_enter Tryz.func59, Tryz.ntmps59
  go_wp2_with fail
  refine (A.out _ _ (by omega)).mono ?_
  rintro e w1 ⟨rfl, rfl⟩
  go_wp2_with fail
  refine (D.out _ _ (by omega)).mono ?_
  rintro e w1 ⟨rfl, rfl⟩
  go_wp2
  refine bodyPost_ret (by simp [results, Tryz.results59, go_sem]; try rfl) rfl ?_
  first
    | exact ⟨rfl, (Below.refl _ w).alloc (Nat.le_refl _) _⟩
    | exact ⟨by rw [hx], (Below.refl _ w).alloc (Nat.le_refl _) _⟩
set_option maxRecDepth 100000 in
set_option maxHeartbeats 4000000 in
theorem one_lta (s x S : ByteArray) (i m : Nat) (k n d : Int) (ok : Bool) (w : World) (hs : s.size ≤ 16384) (hi : i < s.size) (hA : lowN s[i].toNat = false) (hD : digN s[i].toNat = false) (h : s[i].toNat = 60) (h1 : s.size ≤ i + 1) (hx : s.extract i (i + 1) = x) :
    Calls Tryz.prog 59 #[.string s, .int .i64 i] w fun e w' => e = .returned (.tuple #[.agg #[.int .i64 4, .int .i64 i, .string x, .int .i64 0, .int .i64 0, .int .i64 0, .string ⟨#[]⟩], .bool true]) ∧ Below w.heap.size w w' := by
  have hi' : (i : Int) < s.size := by omega
  have h60' : ((s[i].toNat : Nat) : Int) = 60 := by omega
  have n40 : ¬ ((s[i].toNat : Nat) : Int) = 40 := by omega
  have n41 : ¬ ((s[i].toNat : Nat) : Int) = 41 := by omega
  have n45 : ¬ ((s[i].toNat : Nat) : Int) = 45 := by omega
  have n61 : ¬ ((s[i].toNat : Nat) : Int) = 61 := by omega
  have n43 : ¬ ((s[i].toNat : Nat) : Int) = 43 := by omega
  have n42 : ¬ ((s[i].toNat : Nat) : Int) = 42 := by omega
  have g1 : ¬ (i : Int) + 1 < s.size := by omega
  have g3 : (i : Int) ≤ (i : Int) + 1 := by omega
  have g4 : (i : Int) + 1 ≤ s.size := by omega
  have A : Hid (∀ (v : Int) (W : World), v = (s[i].toNat : Int) → Calls Tryz.prog 81 #[.int .u8 v] W fun e w' => e = .returned (.bool false) ∧ w' = W) := fun v W h => by
    rw [h]; have q := rsmall_any s[i].toNat W s[i].toNat_lt; rw [hA] at q; exact q
  have D : Hid (∀ (v : Int) (W : World), v = (s[i].toNat : Int) → Calls Tryz.prog 83 #[.int .u8 v] W fun e w' => e = .returned (.bool false) ∧ w' = W) := fun v W h => by
    rw [h]; have q := rdigit_any s[i].toNat W s[i].toNat_lt; rw [hD] at q; exact q
  go_enter Tryz.func59, Tryz.ntmps59
  go_wp2_with fail
  refine (A.out _ _ (by omega)).mono ?_
  rintro e w1 ⟨rfl, rfl⟩
  go_wp2_with fail
  refine (D.out _ _ (by omega)).mono ?_
  rintro e w1 ⟨rfl, rfl⟩
  go_wp2
  refine bodyPost_ret (by simp [results, Tryz.results59, go_sem]; try rfl) rfl ?_
  first
    | exact ⟨rfl, (Below.refl _ w).alloc (Nat.le_refl _) _⟩
    | exact ⟨by rw [hx], (Below.refl _ w).alloc (Nat.le_refl _) _⟩
set_option maxRecDepth 100000 in
set_option maxHeartbeats 4000000 in
theorem one_ltb (s x S : ByteArray) (i m : Nat) (k n d : Int) (ok : Bool) (w : World) (hs : s.size ≤ 16384) (hi : i < s.size) (hA : lowN s[i].toNat = false) (hD : digN s[i].toNat = false) (h : s[i].toNat = 60) (h1 : i + 1 < s.size) (h61 : ¬ s[i + 1].toNat = 61) (hx : s.extract i (i + 1) = x) :
    Calls Tryz.prog 59 #[.string s, .int .i64 i] w fun e w' => e = .returned (.tuple #[.agg #[.int .i64 4, .int .i64 i, .string x, .int .i64 0, .int .i64 0, .int .i64 0, .string ⟨#[]⟩], .bool true]) ∧ Below w.heap.size w w' := by
  have hi' : (i : Int) < s.size := by omega
  have h60' : ((s[i].toNat : Nat) : Int) = 60 := by omega
  have n40 : ¬ ((s[i].toNat : Nat) : Int) = 40 := by omega
  have n41 : ¬ ((s[i].toNat : Nat) : Int) = 41 := by omega
  have n45 : ¬ ((s[i].toNat : Nat) : Int) = 45 := by omega
  have n61 : ¬ ((s[i].toNat : Nat) : Int) = 61 := by omega
  have n43 : ¬ ((s[i].toNat : Nat) : Int) = 43 := by omega
  have n42 : ¬ ((s[i].toNat : Nat) : Int) = 42 := by omega
  have g1 : (i : Int) + 1 < s.size := by omega
  have g2 : ¬ ((s[i + 1].toNat : Nat) : Int) = 61 := by omega
  have g2b : ((s[i + 1].toNat : Int) == 61) = false := beq_eq_false_iff_ne.mpr (by omega)
  have g3 : (i : Int) ≤ (i : Int) + 1 := by omega
  have g4 : (i : Int) + 1 ≤ s.size := by omega
  have A : Hid (∀ (v : Int) (W : World), v = (s[i].toNat : Int) → Calls Tryz.prog 81 #[.int .u8 v] W fun e w' => e = .returned (.bool false) ∧ w' = W) := fun v W h => by
    rw [h]; have q := rsmall_any s[i].toNat W s[i].toNat_lt; rw [hA] at q; exact q
  have D : Hid (∀ (v : Int) (W : World), v = (s[i].toNat : Int) → Calls Tryz.prog 83 #[.int .u8 v] W fun e w' => e = .returned (.bool false) ∧ w' = W) := fun v W h => by
    rw [h]; have q := rdigit_any s[i].toNat W s[i].toNat_lt; rw [hD] at q; exact q
  go_enter Tryz.func59, Tryz.ntmps59
  go_wp2_with fail
  refine (A.out _ _ (by omega)).mono ?_
  rintro e w1 ⟨rfl, rfl⟩
  go_wp2_with fail
  refine (D.out _ _ (by omega)).mono ?_
  rintro e w1 ⟨rfl, rfl⟩
  go_wp2
  refine bodyPost_ret (by simp [results, Tryz.results59, go_sem]; try rfl) rfl ?_
  first
    | exact ⟨rfl, (Below.refl _ w).alloc (Nat.le_refl _) _⟩
    | exact ⟨by rw [hx], (Below.refl _ w).alloc (Nat.le_refl _) _⟩
set_option maxRecDepth 100000 in
set_option maxHeartbeats 4000000 in
theorem one_mia (s x S : ByteArray) (i m : Nat) (k n d : Int) (ok : Bool) (w : World) (hs : s.size ≤ 16384) (hi : i < s.size) (hA : lowN s[i].toNat = false) (hD : digN s[i].toNat = false) (h : s[i].toNat = 45) (h1 : s.size ≤ i + 1) (hx : s.extract i (i + 1) = x) :
    Calls Tryz.prog 59 #[.string s, .int .i64 i] w fun e w' => e = .returned (.tuple #[.agg #[.int .i64 4, .int .i64 i, .string x, .int .i64 0, .int .i64 0, .int .i64 0, .string ⟨#[]⟩], .bool true]) ∧ Below w.heap.size w w' := by
  have hi' : (i : Int) < s.size := by omega
  have h45' : ((s[i].toNat : Nat) : Int) = 45 := by omega
  have n40 : ¬ ((s[i].toNat : Nat) : Int) = 40 := by omega
  have n41 : ¬ ((s[i].toNat : Nat) : Int) = 41 := by omega
  have n60 : ¬ ((s[i].toNat : Nat) : Int) = 60 := by omega
  have n61 : ¬ ((s[i].toNat : Nat) : Int) = 61 := by omega
  have n43 : ¬ ((s[i].toNat : Nat) : Int) = 43 := by omega
  have n42 : ¬ ((s[i].toNat : Nat) : Int) = 42 := by omega
  have g1 : ¬ (i : Int) + 1 < s.size := by omega
  have g3 : (i : Int) ≤ (i : Int) + 1 := by omega
  have g4 : (i : Int) + 1 ≤ s.size := by omega
  have A : Hid (∀ (v : Int) (W : World), v = (s[i].toNat : Int) → Calls Tryz.prog 81 #[.int .u8 v] W fun e w' => e = .returned (.bool false) ∧ w' = W) := fun v W h => by
    rw [h]; have q := rsmall_any s[i].toNat W s[i].toNat_lt; rw [hA] at q; exact q
  have D : Hid (∀ (v : Int) (W : World), v = (s[i].toNat : Int) → Calls Tryz.prog 83 #[.int .u8 v] W fun e w' => e = .returned (.bool false) ∧ w' = W) := fun v W h => by
    rw [h]; have q := rdigit_any s[i].toNat W s[i].toNat_lt; rw [hD] at q; exact q
  go_enter Tryz.func59, Tryz.ntmps59
  go_wp2_with fail
  refine (A.out _ _ (by omega)).mono ?_
  rintro e w1 ⟨rfl, rfl⟩
  go_wp2_with fail
  refine (D.out _ _ (by omega)).mono ?_
  rintro e w1 ⟨rfl, rfl⟩
  go_wp2
  refine bodyPost_ret (by simp [results, Tryz.results59, go_sem]; try rfl) rfl ?_
  first
    | exact ⟨rfl, (Below.refl _ w).alloc (Nat.le_refl _) _⟩
    | exact ⟨by rw [hx], (Below.refl _ w).alloc (Nat.le_refl _) _⟩
set_option maxRecDepth 100000 in
set_option maxHeartbeats 4000000 in
theorem one_mib (s x S : ByteArray) (i m : Nat) (k n d : Int) (ok : Bool) (w : World) (hs : s.size ≤ 16384) (hi : i < s.size) (hA : lowN s[i].toNat = false) (hD : digN s[i].toNat = false) (h : s[i].toNat = 45) (h1 : i + 1 < s.size) (hP : digN s[i + 1].toNat = false) (hx : s.extract i (i + 1) = x) :
    Calls Tryz.prog 59 #[.string s, .int .i64 i] w fun e w' => e = .returned (.tuple #[.agg #[.int .i64 4, .int .i64 i, .string x, .int .i64 0, .int .i64 0, .int .i64 0, .string ⟨#[]⟩], .bool true]) ∧ Below w.heap.size w w' := by
  have hi' : (i : Int) < s.size := by omega
  have h45' : ((s[i].toNat : Nat) : Int) = 45 := by omega
  have n40 : ¬ ((s[i].toNat : Nat) : Int) = 40 := by omega
  have n41 : ¬ ((s[i].toNat : Nat) : Int) = 41 := by omega
  have n60 : ¬ ((s[i].toNat : Nat) : Int) = 60 := by omega
  have n61 : ¬ ((s[i].toNat : Nat) : Int) = 61 := by omega
  have n43 : ¬ ((s[i].toNat : Nat) : Int) = 43 := by omega
  have n42 : ¬ ((s[i].toNat : Nat) : Int) = 42 := by omega
  have g1 : (i : Int) + 1 < s.size := by omega
  have g3 : (i : Int) ≤ (i : Int) + 1 := by omega
  have g4 : (i : Int) + 1 ≤ s.size := by omega
  have A : Hid (∀ (v : Int) (W : World), v = (s[i].toNat : Int) → Calls Tryz.prog 81 #[.int .u8 v] W fun e w' => e = .returned (.bool false) ∧ w' = W) := fun v W h => by
    rw [h]; have q := rsmall_any s[i].toNat W s[i].toNat_lt; rw [hA] at q; exact q
  have D : Hid (∀ (v : Int) (W : World), v = (s[i].toNat : Int) → Calls Tryz.prog 83 #[.int .u8 v] W fun e w' => e = .returned (.bool false) ∧ w' = W) := fun v W h => by
    rw [h]; have q := rdigit_any s[i].toNat W s[i].toNat_lt; rw [hD] at q; exact q
  have DP : Hid (∀ (v : Int) (W : World), v = (s[i + 1].toNat : Int) → Calls Tryz.prog 83 #[.int .u8 v] W fun x w' => x = .returned (.bool false) ∧ w' = W) := fun v W h => by
    rw [h]; have q := rdigit_any s[i + 1].toNat W s[i + 1].toNat_lt; rw [hP] at q; exact q
  go_enter Tryz.func59, Tryz.ntmps59
  go_wp2_with fail
  refine (A.out _ _ (by omega)).mono ?_
  rintro e w1 ⟨rfl, rfl⟩
  go_wp2_with fail
  refine (D.out _ _ (by omega)).mono ?_
  rintro e w1 ⟨rfl, rfl⟩
  go_wp2_with fail
  refine (DP.out _ _ (by omega)).mono ?_
  rintro e w1 ⟨rfl, rfl⟩
  go_wp2
  refine bodyPost_ret (by simp [results, Tryz.results59, go_sem]; try rfl) rfl ?_
  first
    | exact ⟨rfl, (Below.refl _ w).alloc (Nat.le_refl _) _⟩
    | exact ⟨by rw [hx], (Below.refl _ w).alloc (Nat.le_refl _) _⟩
set_option maxRecDepth 100000 in
set_option maxHeartbeats 4000000 in
theorem one_91n (s x S : ByteArray) (i m : Nat) (k n d : Int) (ok : Bool) (w : World) (hs : s.size ≤ 16384) (hi : i < s.size) (hA : lowN s[i].toNat = false) (hD : digN s[i].toNat = false) (h : s[i].toNat = 91)
    (BR : Hid (∀ W : World, Calls Tryz.prog 85 #[.string s, .int .i64 i] W fun e w' => e = .returned (.int .i64 0) ∧ w' = W)) :
    Calls Tryz.prog 59 #[.string s, .int .i64 i] w fun e w' => e = .returned (.tuple #[.agg #[.int .i64 0, .int .i64 0, .string ⟨#[]⟩, .int .i64 0, .int .i64 0, .int .i64 0, .string ⟨#[]⟩], .bool false]) ∧ Below w.heap.size w w' := by
  have hi' : (i : Int) < s.size := by omega
  have h91' : ((s[i].toNat : Nat) : Int) = 91 := by omega
  have n40 : ¬ ((s[i].toNat : Nat) : Int) = 40 := by omega
  have n41 : ¬ ((s[i].toNat : Nat) : Int) = 41 := by omega
  have n45 : ¬ ((s[i].toNat : Nat) : Int) = 45 := by omega
  have n60 : ¬ ((s[i].toNat : Nat) : Int) = 60 := by omega
  have n61 : ¬ ((s[i].toNat : Nat) : Int) = 61 := by omega
  have n43 : ¬ ((s[i].toNat : Nat) : Int) = 43 := by omega
  have n42 : ¬ ((s[i].toNat : Nat) : Int) = 42 := by omega
  have A : Hid (∀ (v : Int) (W : World), v = (s[i].toNat : Int) → Calls Tryz.prog 81 #[.int .u8 v] W fun e w' => e = .returned (.bool false) ∧ w' = W) := fun v W h => by
    rw [h]; have q := rsmall_any s[i].toNat W s[i].toNat_lt; rw [hA] at q; exact q
  have D : Hid (∀ (v : Int) (W : World), v = (s[i].toNat : Int) → Calls Tryz.prog 83 #[.int .u8 v] W fun e w' => e = .returned (.bool false) ∧ w' = W) := fun v W h => by
    rw [h]; have q := rdigit_any s[i].toNat W s[i].toNat_lt; rw [hD] at q; exact q
  go_enter Tryz.func59, Tryz.ntmps59
  go_wp2_with fail
  refine (A.out _ _ (by omega)).mono ?_
  rintro e w1 ⟨rfl, rfl⟩
  go_wp2_with fail
  refine (D.out _ _ (by omega)).mono ?_
  rintro e w1 ⟨rfl, rfl⟩
  go_wp2_with fail
  refine (BR.out _).mono ?_
  rintro e w1 ⟨rfl, rfl⟩
  go_wp2
  refine bodyPost_ret (by simp [results, Tryz.results59, go_sem]; try rfl) rfl ?_
  exact ⟨rfl, (Below.refl _ w).alloc (Nat.le_refl _) _⟩
set_option maxRecDepth 100000 in
set_option maxHeartbeats 4000000 in
theorem one_91s (s x S : ByteArray) (i m : Nat) (k n d : Int) (ok : Bool) (w : World) (hs : s.size ≤ 16384) (hi : i < s.size) (hA : lowN s[i].toNat = false) (hD : digN s[i].toNat = false) (h : s[i].toNat = 91) (hm : i < m) (hms : m ≤ s.size) (hx : s.extract i m = x)
    (BR : Hid (∀ W : World, Calls Tryz.prog 85 #[.string s, .int .i64 i] W fun e w' => e = .returned (.int .i64 m) ∧ w' = W))
    (EN : Hid (∀ W : World, Calls Tryz.prog 86 #[.string x] W fun e w' => EndsOut e ok ∧ Below W.heap.size W w')) :
    Calls Tryz.prog 59 #[.string s, .int .i64 i] w fun e w' => e = .returned (.tuple #[.agg #[.int .i64 5, .int .i64 i, .string x, .int .i64 0, .int .i64 0, .int .i64 0, .string ⟨#[]⟩], .bool ok]) ∧ Below w.heap.size w w' := by
  have hi' : (i : Int) < s.size := by omega
  have h91' : ((s[i].toNat : Nat) : Int) = 91 := by omega
  have n40 : ¬ ((s[i].toNat : Nat) : Int) = 40 := by omega
  have n41 : ¬ ((s[i].toNat : Nat) : Int) = 41 := by omega
  have n45 : ¬ ((s[i].toNat : Nat) : Int) = 45 := by omega
  have n60 : ¬ ((s[i].toNat : Nat) : Int) = 60 := by omega
  have n61 : ¬ ((s[i].toNat : Nat) : Int) = 61 := by omega
  have n43 : ¬ ((s[i].toNat : Nat) : Int) = 43 := by omega
  have n42 : ¬ ((s[i].toNat : Nat) : Int) = 42 := by omega
  have g1 : (i : Int) ≤ m := by omega
  have g2 : (m : Int) ≤ s.size := by omega
  have g5 : ¬ (m : Int) = 0 := by omega
  have g6 : ((m : Int) == 0) = false := beq_eq_false_iff_ne.mpr (by omega)
  have A : Hid (∀ (v : Int) (W : World), v = (s[i].toNat : Int) → Calls Tryz.prog 81 #[.int .u8 v] W fun e w' => e = .returned (.bool false) ∧ w' = W) := fun v W h => by
    rw [h]; have q := rsmall_any s[i].toNat W s[i].toNat_lt; rw [hA] at q; exact q
  have D : Hid (∀ (v : Int) (W : World), v = (s[i].toNat : Int) → Calls Tryz.prog 83 #[.int .u8 v] W fun e w' => e = .returned (.bool false) ∧ w' = W) := fun v W h => by
    rw [h]; have q := rdigit_any s[i].toNat W s[i].toNat_lt; rw [hD] at q; exact q
  go_enter Tryz.func59, Tryz.ntmps59
  go_wp2_with fail
  refine (A.out _ _ (by omega)).mono ?_
  rintro e w1 ⟨rfl, rfl⟩
  go_wp2_with fail
  refine (D.out _ _ (by omega)).mono ?_
  rintro e w1 ⟨rfl, rfl⟩
  go_wp2_with fail
  refine (BR.out _).mono ?_
  rintro e w1 ⟨rfl, rfl⟩
  go_wp2_with fail
  refine (EN.out _).mono ?_
  rintro e w1 ⟨⟨lo, hi2, op, rfl⟩, hb1⟩
  have R1 : Hid (BlkT w1 w.heap.size 0 0 ⟨#[]⟩ 0 0 0 ⟨#[]⟩) := BlkT.below (by constructor <;> simp (maxDischargeDepth := 16) [go_sem]) hb1 (by simp)
  have B1 : Below w.heap.size w w1 := ((Below.refl _ w).alloc (Nat.le_refl _) _).trans (hb1.mono (by simp))
  have z1 : w.heap.size < w1.heap.size := by have := hb1.size; simp at this; omega
  clear hb1
  go_upto_region 20 with fail
  refine wp_world ?_
  intro W2 hW2
  have R2 : Hid (BlkT W2 w.heap.size 0 0 ⟨#[]⟩ 0 0 0 ⟨#[]⟩) := by rw [hW2]; exact R1.out.below ((Below.refl w1.heap.size w1).alloc (Nat.le_refl _) _) z1
  have B2 : Below w.heap.size w W2 := by rw [hW2]; exact B1.alloc B1.size _
  clear hW2 R1 B1 z1
  obtain ⟨r0, r1, r2, r3, r4, r5, r6, q0, q1, q2, q3, q4, q5, q6⟩ := R2.out
  go_wp2
  generalize hW9 : World.setCell _ _ _ = W9
  have b9 : BlkT W9 w.heap.size 5 i x 0 0 0 ⟨#[]⟩ := by rw [← hW9]; exact R2.out.seven
  have hB9 : Below w.heap.size w W9 := by rw [← hW9]; exact below7 B2 (Nat.le_refl _) _ _ _ _ _ _ _
  clear hW9
  obtain ⟨x0, x1, x2, x3, x4, x5, x6, -, -, -, -, -, -, -⟩ := b9
  refine bodyPost_ret (by simp [results, Tryz.results59, go_sem, x0, x1, x2, x3, x4, x5, x6]; try rfl) rfl ?_
  exact ⟨rfl, hB9⟩
set_option maxRecDepth 100000 in
set_option maxHeartbeats 4000000 in
theorem one_34n (s x S : ByteArray) (i m : Nat) (k n d : Int) (ok : Bool) (w : World) (hs : s.size ≤ 16384) (hi : i < s.size) (hA : lowN s[i].toNat = false) (hD : digN s[i].toNat = false) (h : s[i].toNat = 34)
    (QU : Hid (∀ W : World, Calls Tryz.prog 87 #[.string s, .int .i64 i] W fun e w' => e = .returned (.int .i64 0) ∧ w' = W)) :
    Calls Tryz.prog 59 #[.string s, .int .i64 i] w fun e w' => e = .returned (.tuple #[.agg #[.int .i64 0, .int .i64 0, .string ⟨#[]⟩, .int .i64 0, .int .i64 0, .int .i64 0, .string ⟨#[]⟩], .bool false]) ∧ Below w.heap.size w w' := by
  have hi' : (i : Int) < s.size := by omega
  have h34' : ((s[i].toNat : Nat) : Int) = 34 := by omega
  have n40 : ¬ ((s[i].toNat : Nat) : Int) = 40 := by omega
  have n41 : ¬ ((s[i].toNat : Nat) : Int) = 41 := by omega
  have n45 : ¬ ((s[i].toNat : Nat) : Int) = 45 := by omega
  have n60 : ¬ ((s[i].toNat : Nat) : Int) = 60 := by omega
  have n61 : ¬ ((s[i].toNat : Nat) : Int) = 61 := by omega
  have n43 : ¬ ((s[i].toNat : Nat) : Int) = 43 := by omega
  have n42 : ¬ ((s[i].toNat : Nat) : Int) = 42 := by omega
  have n91 : ¬ ((s[i].toNat : Nat) : Int) = 91 := by omega
  have A : Hid (∀ (v : Int) (W : World), v = (s[i].toNat : Int) → Calls Tryz.prog 81 #[.int .u8 v] W fun e w' => e = .returned (.bool false) ∧ w' = W) := fun v W h => by
    rw [h]; have q := rsmall_any s[i].toNat W s[i].toNat_lt; rw [hA] at q; exact q
  have D : Hid (∀ (v : Int) (W : World), v = (s[i].toNat : Int) → Calls Tryz.prog 83 #[.int .u8 v] W fun e w' => e = .returned (.bool false) ∧ w' = W) := fun v W h => by
    rw [h]; have q := rdigit_any s[i].toNat W s[i].toNat_lt; rw [hD] at q; exact q
  go_enter Tryz.func59, Tryz.ntmps59
  go_wp2_with fail
  refine (A.out _ _ (by omega)).mono ?_
  rintro e w1 ⟨rfl, rfl⟩
  go_wp2_with fail
  refine (D.out _ _ (by omega)).mono ?_
  rintro e w1 ⟨rfl, rfl⟩
  go_wp2_with fail
  refine (QU.out _).mono ?_
  rintro e w1 ⟨rfl, rfl⟩
  go_wp2
  refine bodyPost_ret (by simp [results, Tryz.results59, go_sem]; try rfl) rfl ?_
  exact ⟨rfl, (Below.refl _ w).alloc (Nat.le_refl _) _⟩
end Go.Proofs.YticmebamclacaaaGreatDoor

namespace Go.Proofs.YticmebamclacaaaGreatDoor
open Go.RowKit Go.Shelf LX
set_option linter.unusedVariables false

set_option maxRecDepth 100000 in
set_option maxHeartbeats 4000000 in
theorem one_34s (s x S : ByteArray) (i m : Nat) (k n d : Int) (ok : Bool) (w : World) (hs : s.size ≤ 16384) (hi : i < s.size) (hA : lowN s[i].toNat = false) (hD : digN s[i].toNat = false) (h : s[i].toNat = 34) (hm : i < m) (hms : m ≤ s.size) (hx : s.extract i m = x)
    (QU : Hid (∀ W : World, Calls Tryz.prog 87 #[.string s, .int .i64 i] W fun e w' => e = .returned (.int .i64 m) ∧ w' = W))
    (VA : Hid (∀ W : World, Calls Tryz.prog 88 #[.string x, .int .i64 i] W fun e w' => e = .returned (.tuple #[.agg #[.int .i64 6, .int .i64 i, .string x, .int .i64 k, .int .i64 n, .int .i64 d, .string S], .bool ok]) ∧ Below W.heap.size W w')) :
    Calls Tryz.prog 59 #[.string s, .int .i64 i] w fun e w' => e = .returned (.tuple #[.agg #[.int .i64 6, .int .i64 i, .string x, .int .i64 k, .int .i64 n, .int .i64 d, .string S], .bool ok]) ∧ Below w.heap.size w w' := by
  have hi' : (i : Int) < s.size := by omega
  have h34' : ((s[i].toNat : Nat) : Int) = 34 := by omega
  have n40 : ¬ ((s[i].toNat : Nat) : Int) = 40 := by omega
  have n41 : ¬ ((s[i].toNat : Nat) : Int) = 41 := by omega
  have n45 : ¬ ((s[i].toNat : Nat) : Int) = 45 := by omega
  have n60 : ¬ ((s[i].toNat : Nat) : Int) = 60 := by omega
  have n61 : ¬ ((s[i].toNat : Nat) : Int) = 61 := by omega
  have n43 : ¬ ((s[i].toNat : Nat) : Int) = 43 := by omega
  have n42 : ¬ ((s[i].toNat : Nat) : Int) = 42 := by omega
  have n91 : ¬ ((s[i].toNat : Nat) : Int) = 91 := by omega
  have g1 : (i : Int) ≤ m := by omega
  have g2 : (m : Int) ≤ s.size := by omega
  have g5 : ¬ (m : Int) = 0 := by omega
  have g6 : ((m : Int) == 0) = false := beq_eq_false_iff_ne.mpr (by omega)
  have A : Hid (∀ (v : Int) (W : World), v = (s[i].toNat : Int) → Calls Tryz.prog 81 #[.int .u8 v] W fun e w' => e = .returned (.bool false) ∧ w' = W) := fun v W h => by
    rw [h]; have q := rsmall_any s[i].toNat W s[i].toNat_lt; rw [hA] at q; exact q
  have D : Hid (∀ (v : Int) (W : World), v = (s[i].toNat : Int) → Calls Tryz.prog 83 #[.int .u8 v] W fun e w' => e = .returned (.bool false) ∧ w' = W) := fun v W h => by
    rw [h]; have q := rdigit_any s[i].toNat W s[i].toNat_lt; rw [hD] at q; exact q
  go_enter Tryz.func59, Tryz.ntmps59
  go_wp2_with fail
  refine (A.out _ _ (by omega)).mono ?_
  rintro e w1 ⟨rfl, rfl⟩
  go_wp2_with fail
  refine (D.out _ _ (by omega)).mono ?_
  rintro e w1 ⟨rfl, rfl⟩
  go_wp2_with fail
  refine (QU.out _).mono ?_
  rintro e w1 ⟨rfl, rfl⟩
  go_wp2_with fail
  refine (VA.out _).mono ?_
  rintro e w1 ⟨rfl, hb1⟩
  have R1 : Hid (BlkT w1 w.heap.size 0 0 ⟨#[]⟩ 0 0 0 ⟨#[]⟩) := BlkT.below (by constructor <;> simp (maxDischargeDepth := 16) [go_sem]) hb1 (by simp)
  have B1 : Below w.heap.size w w1 := ((Below.refl _ w).alloc (Nat.le_refl _) _).trans (hb1.mono (by simp))
  clear hb1
  obtain ⟨r0, r1, r2, r3, r4, r5, r6, q0, q1, q2, q3, q4, q5, q6⟩ := R1.out
  go_wp2
  generalize hW9 : World.setCell _ _ _ = W9
  have b9 : BlkT W9 w.heap.size 6 i x k n d S := by rw [← hW9]; exact R1.out.seven
  have hB9 : Below w.heap.size w W9 := by rw [← hW9]; exact below7 B1 (Nat.le_refl _) _ _ _ _ _ _ _
  clear hW9
  obtain ⟨x0, x1, x2, x3, x4, x5, x6, -, -, -, -, -, -, -⟩ := b9
  refine bodyPost_ret (by simp [results, Tryz.results59, go_sem, x0, x1, x2, x3, x4, x5, x6]; try rfl) rfl ?_
  exact ⟨rfl, hB9⟩
set_option maxRecDepth 100000 in
set_option maxHeartbeats 4000000 in
theorem one_64 (s x S : ByteArray) (i m : Nat) (k n d : Int) (ok : Bool) (w : World) (hs : s.size ≤ 16384) (hi : i < s.size) (hA : lowN s[i].toNat = false) (hD : digN s[i].toNat = false) (h : s[i].toNat = 64) (hm : i + 1 ≤ m) (hms : m ≤ s.size) (hx : s.extract i m = x) (hS : s.extract (i + 1) m = S)
    (DI : Hid (∀ W : World, Calls Tryz.prog 89 #[.string s, .int .i64 ((i + 1 : Nat) : Int)] W fun e w' => e = .returned (.int .i64 m) ∧ w' = W))
    (NU : Hid (∀ W : World, Calls Tryz.prog 90 #[.string S, .int .i64 1099511627776] W fun e w' => e = .returned (.tuple #[.int .i64 n, .bool ok]) ∧ w' = W)) :
    Calls Tryz.prog 59 #[.string s, .int .i64 i] w fun e w' => e = .returned (.tuple #[.agg #[.int .i64 7, .int .i64 i, .string x, .int .i64 1, .int .i64 n, .int .i64 0, .string ⟨#[]⟩], .bool ok]) ∧ Below w.heap.size w w' := by
  have hi' : (i : Int) < s.size := by omega
  have h64' : ((s[i].toNat : Nat) : Int) = 64 := by omega
  have n40 : ¬ ((s[i].toNat : Nat) : Int) = 40 := by omega
  have n41 : ¬ ((s[i].toNat : Nat) : Int) = 41 := by omega
  have n45 : ¬ ((s[i].toNat : Nat) : Int) = 45 := by omega
  have n60 : ¬ ((s[i].toNat : Nat) : Int) = 60 := by omega
  have n61 : ¬ ((s[i].toNat : Nat) : Int) = 61 := by omega
  have n43 : ¬ ((s[i].toNat : Nat) : Int) = 43 := by omega
  have n42 : ¬ ((s[i].toNat : Nat) : Int) = 42 := by omega
  have n91 : ¬ ((s[i].toNat : Nat) : Int) = 91 := by omega
  have n34 : ¬ ((s[i].toNat : Nat) : Int) = 34 := by omega
  have g1 : (i : Int) ≤ m := by omega
  have g2 : (m : Int) ≤ s.size := by omega
  have g3 : (i : Int) + 1 ≤ m := by omega
  have A : Hid (∀ (v : Int) (W : World), v = (s[i].toNat : Int) → Calls Tryz.prog 81 #[.int .u8 v] W fun e w' => e = .returned (.bool false) ∧ w' = W) := fun v W h => by
    rw [h]; have q := rsmall_any s[i].toNat W s[i].toNat_lt; rw [hA] at q; exact q
  have D : Hid (∀ (v : Int) (W : World), v = (s[i].toNat : Int) → Calls Tryz.prog 83 #[.int .u8 v] W fun e w' => e = .returned (.bool false) ∧ w' = W) := fun v W h => by
    rw [h]; have q := rdigit_any s[i].toNat W s[i].toNat_lt; rw [hD] at q; exact q
  go_enter Tryz.func59, Tryz.ntmps59
  go_wp2_with fail
  refine (A.out _ _ (by omega)).mono ?_
  rintro e w1 ⟨rfl, rfl⟩
  go_wp2_with fail
  refine (D.out _ _ (by omega)).mono ?_
  rintro e w1 ⟨rfl, rfl⟩
  go_wp2_with fail
  refine (DI.out _).mono ?_
  rintro e w1 ⟨rfl, rfl⟩
  go_wp2_with fail
  refine (NU.out _).mono ?_
  rintro e w1 ⟨rfl, rfl⟩
  go_wp2
  refine bodyPost_ret (by simp [results, Tryz.results59, go_sem]; try rfl) rfl ?_
  first
    | exact ⟨rfl, (Below.refl _ w).alloc (Nat.le_refl _) _⟩
    | exact ⟨by rw [hx], (Below.refl _ w).alloc (Nat.le_refl _) _⟩
set_option maxRecDepth 100000 in
set_option maxHeartbeats 4000000 in
theorem one_no (s x S : ByteArray) (i m : Nat) (k n d : Int) (ok : Bool) (w : World) (hs : s.size ≤ 16384) (hi : i < s.size) (hA : lowN s[i].toNat = false) (hD : digN s[i].toNat = false) (m40 : ¬ s[i].toNat = 40) (m41 : ¬ s[i].toNat = 41) (m45 : ¬ s[i].toNat = 45) (m60 : ¬ s[i].toNat = 60) (m61 : ¬ s[i].toNat = 61) (m43 : ¬ s[i].toNat = 43) (m42 : ¬ s[i].toNat = 42) (m91 : ¬ s[i].toNat = 91) (m34 : ¬ s[i].toNat = 34) (m64 : ¬ s[i].toNat = 64) :
    Calls Tryz.prog 59 #[.string s, .int .i64 i] w fun e w' => e = .returned (.tuple #[.agg #[.int .i64 0, .int .i64 0, .string ⟨#[]⟩, .int .i64 0, .int .i64 0, .int .i64 0, .string ⟨#[]⟩], .bool false]) ∧ Below w.heap.size w w' := by
  have hi' : (i : Int) < s.size := by omega
  have n40 : ¬ ((s[i].toNat : Nat) : Int) = 40 := by omega
  have n41 : ¬ ((s[i].toNat : Nat) : Int) = 41 := by omega
  have n45 : ¬ ((s[i].toNat : Nat) : Int) = 45 := by omega
  have n60 : ¬ ((s[i].toNat : Nat) : Int) = 60 := by omega
  have n61 : ¬ ((s[i].toNat : Nat) : Int) = 61 := by omega
  have n43 : ¬ ((s[i].toNat : Nat) : Int) = 43 := by omega
  have n42 : ¬ ((s[i].toNat : Nat) : Int) = 42 := by omega
  have n91 : ¬ ((s[i].toNat : Nat) : Int) = 91 := by omega
  have n34 : ¬ ((s[i].toNat : Nat) : Int) = 34 := by omega
  have n64 : ¬ ((s[i].toNat : Nat) : Int) = 64 := by omega
  have b40 : ((s[i].toNat : Int) == 40) = false := beq_eq_false_iff_ne.mpr (by omega)
  have b41 : ((s[i].toNat : Int) == 41) = false := beq_eq_false_iff_ne.mpr (by omega)
  have b45 : ((s[i].toNat : Int) == 45) = false := beq_eq_false_iff_ne.mpr (by omega)
  have b60 : ((s[i].toNat : Int) == 60) = false := beq_eq_false_iff_ne.mpr (by omega)
  have b61 : ((s[i].toNat : Int) == 61) = false := beq_eq_false_iff_ne.mpr (by omega)
  have b43 : ((s[i].toNat : Int) == 43) = false := beq_eq_false_iff_ne.mpr (by omega)
  have b42 : ((s[i].toNat : Int) == 42) = false := beq_eq_false_iff_ne.mpr (by omega)
  have b91 : ((s[i].toNat : Int) == 91) = false := beq_eq_false_iff_ne.mpr (by omega)
  have b34 : ((s[i].toNat : Int) == 34) = false := beq_eq_false_iff_ne.mpr (by omega)
  have b64 : ((s[i].toNat : Int) == 64) = false := beq_eq_false_iff_ne.mpr (by omega)
  have A : Hid (∀ (v : Int) (W : World), v = (s[i].toNat : Int) → Calls Tryz.prog 81 #[.int .u8 v] W fun e w' => e = .returned (.bool false) ∧ w' = W) := fun v W h => by
    rw [h]; have q := rsmall_any s[i].toNat W s[i].toNat_lt; rw [hA] at q; exact q
  have D : Hid (∀ (v : Int) (W : World), v = (s[i].toNat : Int) → Calls Tryz.prog 83 #[.int .u8 v] W fun e w' => e = .returned (.bool false) ∧ w' = W) := fun v W h => by
    rw [h]; have q := rdigit_any s[i].toNat W s[i].toNat_lt; rw [hD] at q; exact q
  go_enter Tryz.func59, Tryz.ntmps59
  go_wp2_with fail
  refine (A.out _ _ (by omega)).mono ?_
  rintro e w1 ⟨rfl, rfl⟩
  go_wp2_with fail
  refine (D.out _ _ (by omega)).mono ?_
  rintro e w1 ⟨rfl, rfl⟩
  go_wp2
  refine bodyPost_ret (by simp [results, Tryz.results59, go_sem]; try rfl) rfl ?_
  exact ⟨rfl, (Below.refl _ w).alloc (Nat.le_refl _) _⟩
end Go.Proofs.YticmebamclacaaaGreatDoor



namespace Go.Proofs.YticmebamclacaaaGreatDoor
open Go.RowKit Go.Shelf
set_option linter.unusedVariables false

set_option maxRecDepth 100000 in
set_option maxHeartbeats 2000000 in
theorem dprint_no (k n d : Int) (s : ByteArray) (w : World) (h1 : -9223372036854775808 ≤ n) (h2 : n ≤ 9223372036854775807) (g1 : -9223372036854775808 ≤ d) (g2 : d ≤ 9223372036854775807) (hc1 : (chk k n d s != 0) = true) :
    Calls Tryz.prog 46 #[.agg #[.int .i64 k, .int .i64 n, .int .i64 d, .string s]] w fun e w' => e = .returned (.tuple #[.string ⟨#[]⟩, .int .i64 (chk k n d s)]) ∧ Below w.heap.size w w' := by
  go_enter Tryz.func46, Tryz.ntmps46
  go_wp2_with fail
  refine (rcheck_any k n d s _ h1 h2 g1 g2).mono ?_
  rintro e w1 ⟨rfl, hb⟩
  obtain ⟨hc, hf, hz, hB⟩ := bf (w := w) (by go_grown) hb
  go_wp2
  go_ret2
  exact ⟨rfl, hB⟩

set_option maxRecDepth 100000 in
set_option maxHeartbeats 2000000 in
theorem dprint_1 (n d : Int) (s : ByteArray) (w : World) (h1 : -9223372036854775808 ≤ n) (h2 : n ≤ 9223372036854775807) (g1 : -9223372036854775808 ≤ d) (g2 : d ≤ 9223372036854775807) (c0 : chk 1 n d s = 0) :
    Calls Tryz.prog 46 #[.agg #[.int .i64 1, .int .i64 n, .int .i64 d, .string s]] w fun e w' => e = .returned (.tuple #[.string ⟨(Lib.itoa n).toArray⟩, .int .i64 0]) ∧ Below w.heap.size w w' := by
  go_enter Tryz.func46, Tryz.ntmps46
  go_wp2_with fail
  refine (rcheck_any 1 n d s _ h1 h2 g1 g2).mono ?_
  rintro e w1 ⟨rfl, hb⟩
  obtain ⟨hc, hf, hz, hB⟩ := bf (w := w) (by go_grown) hb
  rw [c0]
  have a1 : w1.cell? ⟨w.heap.size, 0, none⟩ = some (.int .i64 1) := by rw [hc _ _ (by simp)]; simp [go_sem]
  have a2 : w1.cell? ⟨w.heap.size, 1, none⟩ = some (.int .i64 n) := by rw [hc _ _ (by simp)]; simp [go_sem]
  clear hc hf hz hb
  go_wp2_with fail
  refine (ddec_any n _ h1 h2).mono ?_
  rintro e w2 ⟨rfl, hb2⟩
  go_wp2
  go_ret2
  exact ⟨rfl, hB.trans (hb2.mono hB.size)⟩

set_option maxRecDepth 100000 in
set_option maxHeartbeats 2000000 in
theorem dprint_3 (n d : Int) (s : ByteArray) (w : World) (h1 : -9223372036854775808 ≤ n) (h2 : n ≤ 9223372036854775807) (g1 : -9223372036854775808 ≤ d) (g2 : d ≤ 9223372036854775807) (c0 : chk 3 n d s = 0) :
    Calls Tryz.prog 46 #[.agg #[.int .i64 3, .int .i64 n, .int .i64 d, .string s]] w fun e w' => e = .returned (.tuple #[.string ⟨(quoted s.data.toList).toArray⟩, .int .i64 0]) ∧ Below w.heap.size w w' := by
  have hs := chk_size c0
  go_enter Tryz.func46, Tryz.ntmps46
  go_wp2_with fail
  refine (rcheck_any 3 n d s _ h1 h2 g1 g2).mono ?_
  rintro e w1 ⟨rfl, hb⟩
  obtain ⟨hc, hf, hz, hB⟩ := bf (w := w) (by go_grown) hb
  rw [c0]
  have a1 : w1.cell? ⟨w.heap.size, 0, none⟩ = some (.int .i64 3) := by rw [hc _ _ (by simp)]; simp [go_sem]
  have a2 : w1.cell? ⟨w.heap.size, 3, none⟩ = some (.string s) := by rw [hc _ _ (by simp)]; simp [go_sem]
  clear hc hf hz hb
  go_wp2_with fail
  refine (dquote_any s _ (by omega)).mono ?_
  rintro e w2 ⟨rfl, hb2⟩
  go_wp2
  go_ret2
  exact ⟨rfl, hB.trans (hb2.mono hB.size)⟩

set_option maxRecDepth 100000 in
set_option maxHeartbeats 2000000 in
theorem dprint_2 (n d : Int) (s : ByteArray) (w : World) (h1 : -9223372036854775808 ≤ n) (h2 : n ≤ 9223372036854775807) (g1 : -9223372036854775808 ≤ d) (g2 : d ≤ 9223372036854775807) (c0 : chk 2 n d s = 0) :
    Calls Tryz.prog 46 #[.agg #[.int .i64 2, .int .i64 n, .int .i64 d, .string s]] w fun e w' => e = .returned (.tuple #[.string ⟨(Lib.itoa n ++ 47 :: Lib.itoa d).toArray⟩, .int .i64 0]) ∧ Below w.heap.size w w' := by
  go_enter Tryz.func46, Tryz.ntmps46
  go_wp2_with fail
  refine (rcheck_any 2 n d s _ h1 h2 g1 g2).mono ?_
  rintro e W0 ⟨rfl, hb⟩
  obtain ⟨hc, hf, hz, hB⟩ := bf (w := w) (by go_grown) hb
  rw [c0]
  have c3 : W0.cell? ⟨w.heap.size, 0, none⟩ = some (.int .i64 2) := by rw [hc _ _ (by simp)]; simp [go_sem]
  have c1 : W0.cell? ⟨w.heap.size, 1, none⟩ = some (.int .i64 n) := by rw [hc _ _ (by simp)]; simp [go_sem]
  have c2 : W0.cell? ⟨w.heap.size, 2, none⟩ = some (.int .i64 d) := by rw [hc _ _ (by simp)]; simp [go_sem]
  have k1 : w.heap.size < W0.heap.size := by simp at hz; omega
  have k0 : Below w.heap.size w W0 := hB
  clear hc hf hz hb hB
  go_upto_region 8 with fail
  have lA := Lib.itoa_length_le n h1 h2
  have lB := Lib.itoa_length_le d g1 g2
  obtain ⟨A, eA⟩ : ∃ A : ByteArray, A = ⟨(Lib.itoa n).toArray⟩ := ⟨_, rfl⟩
  obtain ⟨B, eB⟩ : ∃ B : ByteArray, B = ⟨(Lib.itoa d).toArray⟩ := ⟨_, rfl⟩
  have sA : A.size ≤ 21 := by rw [eA]; show (Lib.itoa n).toArray.size ≤ 21; simpa using lA
  have sB : B.size ≤ 21 := by rw [eB]; show (Lib.itoa d).toArray.size ≤ 21; simpa using lB
  have DA := fun (W : World) => ddec_any n W h1 h2
  have DB := fun (W : World) => ddec_any d W g1 g2
  rw [← eA] at DA
  rw [← eB] at DB
  obtain ⟨C, eC⟩ : ∃ C : ByteArray, C = A ++ ⟨#[47]⟩ := ⟨_, rfl⟩
  have sC : C.size ≤ 22 := by rw [eC, ByteArray.size_append]; have : (⟨#[47]⟩ : ByteArray).size = 1 := rfl
                              omega
  have x1 : ∀ W : World, (Op.stringOp .add A ⟨#[47]⟩).run Tryz.prog W = .ok (.string C) W := fun W => by
    rw [run_string_add_sum W _ _ (by have : (⟨#[47]⟩ : ByteArray).size = 1 := rfl
                                     omega), eC]
  have x2 : ∀ W : World, (Op.stringOp .add C B).run Tryz.prog W = .ok (.string (C ++ B)) W := fun W => run_string_add_sum W _ _ (by omega)
  have eF : Hid (C ++ B = ⟨(Lib.itoa n ++ 47 :: Lib.itoa d).toArray⟩) := by
    rw [eC, eA, eB]
    apply ByteArray.ext
    simp
  have DA' : Hid (∀ W : World, Calls Tryz.prog 45 #[.int .i64 n] W fun e w' => e = .returned (.string A) ∧ Below W.heap.size W w') := DA
  have DB' : Hid (∀ W : World, Calls Tryz.prog 45 #[.int .i64 d] W fun e w' => e = .returned (.string B) ∧ Below W.heap.size W w') := DB
  clear DA DB eA eB eC sA sB sC lA lB
  go_region_held3 (fun w' => w'.cell? ⟨w.heap.size, 1, none⟩ = some (.int .i64 n) ∧ w'.cell? ⟨w.heap.size, 2, none⟩ = some (.int .i64 d)) (exact ⟨bcl (n := W0.heap.size) (by go_grown) c1 k1, bcl (n := W0.heap.size) (by go_grown) c2 k1⟩)
    (first
      | (go_at_call_of 45 (Value.int IntKind.i64 n); refine (DA'.out _).mono ?_; rintro e w1 ⟨rfl, hb1⟩; obtain ⟨hB1, hn1⟩ := bg0 (n := W0.heap.size) (W0 := W0) (by go_grown) (by go_size) hb1)
      | (go_at_call_of 45 (Value.int IntKind.i64 d); refine (DB'.out _).mono ?_; rintro e w2 ⟨rfl, hb2⟩; obtain ⟨hB2, hn2⟩ := bg0 (n := W0.heap.size) (W0 := W0) (by go_grown) (by go_size) hb2))
  all_goals
    go_wp2
    go_ret2
    exact ⟨by rw [eF.out]; rfl, k0.trans (Below.mono (B := W0.heap.size) (by go_grown) k0.size)⟩

theorem chk_kind0 {k n d : Int} {s : ByteArray} (h : chk k n d s = 0) : k = 1 ∨ k = 2 ∨ k = 3 := by
  by_cases k1 : k = 1
  · exact Or.inl k1
  · by_cases k2 : k = 2
    · exact Or.inr (Or.inl k2)
    · by_cases k3 : k = 3
      · exact Or.inr (Or.inr k3)
      · exfalso
        have e0 : chk k n d s = 20 := by simp [chk, pureB, k1, k2, k3]
        omega

theorem dprint_any (k n d : Int) (s : ByteArray) (w : World) (h1 : -9223372036854775808 ≤ n) (h2 : n ≤ 9223372036854775807) (g1 : -9223372036854775808 ≤ d) (g2 : d ≤ 9223372036854775807) :
    Calls Tryz.prog 46 #[.agg #[.int .i64 k, .int .i64 n, .int .i64 d, .string s]] w fun e w' => e = .returned (.tuple #[.string ⟨(if chk k n d s = 0 then vtext k n d s else []).toArray⟩, .int .i64 (chk k n d s)]) ∧ Below w.heap.size w w' := by
  by_cases hc0 : chk k n d s = 0
  · rw [if_pos hc0, hc0]
    rcases chk_kind0 hc0 with rfl | rfl | rfl
    · have h := dprint_1 n d s w h1 h2 g1 g2 hc0
      exact h
    · have h := dprint_2 n d s w h1 h2 g1 g2 hc0
      exact h
    · have h := dprint_3 n d s w h1 h2 g1 g2 hc0
      exact h
  · rw [if_neg hc0]
    exact dprint_no k n d s w h1 h2 g1 g2 (by simpa using hc0)

end Go.Proofs.YticmebamclacaaaGreatDoor

namespace Go.Proofs.YticmebamclacaaaGreatDoor
open Go.RowKit Go.Shelf
set_option linter.unusedVariables false

/-- What a digit to the base 16 is worth to the document: no capitals. -/
def wth (c : UInt8) : Nat := if 48 ≤ c.toNat ∧ c.toNat ≤ 57 then c.toNat - 48 else if 97 ≤ c.toNat ∧ c.toNat ≤ 102 then c.toNat - 87 else 16
theorem wth_hexd_all : ∀ i : Fin 16, wth (hexd i.1) = i.1 := by decide
theorem wth_hexd (n : Nat) (h : n < 16) : wth (hexd n) = n := wth_hexd_all ⟨n, h⟩
theorem wth_back_all : ∀ i : Fin 256, wth (UInt8.ofNat i.1) < 16 → hexd (wth (UInt8.ofNat i.1)) = UInt8.ofNat i.1 := by decide +kernel
theorem wth_back (c : UInt8) (h : wth c < 16) : hexd (wth c) = c := by
  have q := wth_back_all ⟨c.toNat, c.toNat_lt⟩
  rw [show (⟨c.toNat, c.toNat_lt⟩ : Fin 256).1 = c.toNat from rfl, UInt8.ofNat_toNat] at q
  exact q h
theorem wth_le (c : UInt8) : wth c ≤ 16 := by unfold wth; split; omega; split <;> omega

set_option maxRecDepth 100000 in
set_option maxHeartbeats 2000000 in
theorem worth_any (c : UInt8) (w : World) :
    Calls Tryz.prog 154 #[.int .u8 c.toNat] w fun e w' => e = .returned (.int .i64 (wth c)) ∧ Below w.heap.size w w' := by
  have hu : c.toNat < 256 := c.toNat_lt
  go_enter Tryz.func154, Tryz.ntmps154
  go_wp2
  go_loopw [3] (fun i wr => ∃ k : Nat, k ≤ 16 ∧ i = .int .i64 k ∧ Hid (∀ j, j < k → hexd j ≠ c) ∧ Below w.heap.size w wr) (fun i _ => 16 - (intOf i).toNat)
  case atStart => exact ⟨0, by omega, rfl, fun j h => by omega, Below.refl _ _⟩
  case round =>
    obtain ⟨k, hk, rfl, hj, hB⟩ := hrel
    by_cases hke : k = 16
    · subst hke
      have e0 : Hid (((wth c : Nat) : Int) = 16) := by
        have h1 := wth_le c
        have h2 : ¬ wth c < 16 := fun h => hj.out (wth c) h (wth_back c h)
        show ((wth c : Nat) : Int) = 16
        omega
      clear hj
      go_wp2
      go_ret
      exact ⟨ret_int e0.out.symm, hB⟩
    · have hk1 : (k : Int) < 16 := by omega
      have hk2 : k < 16 := by omega
      have tk := hex_tab k hk2
      by_cases he : hexd k = c
      · have e0 : Hid (((wth c : Nat) : Int) = k) := by rw [← he, wth_hexd k hk2]; rfl
        have hq : (((hexd k).toNat : Int) == (c.toNat : Int)) = true := by rw [he]; simp
        clear hj he
        go_wp2
        go_ret
        exact ⟨ret_int e0.out.symm, hB⟩
      · have hq : (((hexd k).toNat : Int) == (c.toNat : Int)) = false := by
          simp
          intro h
          exact he (UInt8.toNat_inj.1 (by omega))
        have e0 : Hid (∀ j, j < k + 1 → hexd j ≠ c) := fun j hjk => by
          by_cases g : j = k
          · rw [g]; exact he
          · exact hj.out j (by omega)
        clear hj he
        go_wp2
        exact ⟨⟨k + 1, by omega, by simp, e0, hB⟩, by simp [intOf]; omega⟩

/-- What digits say, step by step, wrapped round. -/
def numA : List UInt8 → Int → Int
  | [], a => a
  | c :: r, a => numA r (if 48 ≤ c.toNat ∧ c.toNat ≤ 57 then wrap64 (wrap64 (a * 10) - (c.toNat - 48)) else a)
theorem numA_cons (c : UInt8) (r : List UInt8) (a : Int) : numA (c :: r) a = numA r (if 48 ≤ c.toNat ∧ c.toNat ≤ 57 then wrap64 (wrap64 (a * 10) - (c.toNat - 48)) else a) := rfl
def numS (l : List UInt8) : Int := if l.head?.map (·.toNat) = some 45 then numA l 0 else wrap64 (-(numA l 0))
theorem wrap_range (x : Int) : -9223372036854775808 ≤ wrap64 x ∧ wrap64 x ≤ 9223372036854775807 := by unfold wrap64; omega
theorem wrap_id {x : Int} (h1 : -9223372036854775808 ≤ x) (h2 : x ≤ 9223372036854775807) : wrap64 x = x := by unfold wrap64; omega
theorem numA_fits : ∀ (l : List UInt8) (a : Int), -9223372036854775808 ≤ a → a ≤ 9223372036854775807 → -9223372036854775808 ≤ numA l a ∧ numA l a ≤ 9223372036854775807
  | [], a, h1, h2 => ⟨h1, h2⟩
  | c :: r, a, h1, h2 => by
    unfold numA
    split
    · exact numA_fits r _ (wrap_range _).1 (wrap_range _).2
    · exact numA_fits r a h1 h2
theorem numS_fits (l : List UInt8) : -9223372036854775808 ≤ numS l ∧ numS l ≤ 9223372036854775807 := by
  unfold numS
  split
  · exact numA_fits l 0 (by omega) (by omega)
  · exact wrap_range _
theorem numA_append : ∀ (l r : List UInt8) (a : Int), numA (l ++ r) a = numA r (numA l a)
  | [], r, a => rfl
  | c :: l, r, a => by simp only [List.cons_append, numA]; exact numA_append l r _
theorem numA_dec : ∀ (u : Nat), u ≤ 9223372036854775808 → numA (Lib.decDigits u) 0 = -(u : Int) := by
  intro u
  induction u using Nat.strongRecOn with
  | _ u ih =>
    intro hu
    by_cases h : u < 10
    · rw [Lib.decDigits_one h]
      have e := dg_nat u h
      simp only [numA, e]
      rw [if_pos (by omega)]
      rw [wrap_id (x := 0 * 10) (by omega) (by omega), wrap_id (by omega) (by omega)]
      omega
    · have e := dg_nat (u % 10) (by omega)
      rw [Lib.decDigits, dif_neg h, numA_append, ih (u / 10) (by omega) (by omega)]
      simp only [numA, e]
      rw [if_pos (by omega)]
      rw [wrap_id (x := -((u / 10 : Nat) : Int) * 10) (by omega) (by omega), wrap_id (by omega) (by omega)]
      omega
theorem numS_itoa {n : Int} (h1 : -9223372036854775808 ≤ n) (h2 : n ≤ 9223372036854775807) : numS (Lib.itoa n) = n := by
  unfold Lib.itoa
  by_cases hn : n < 0
  · rw [if_pos hn]
    unfold numS
    rw [if_pos (show Option.map (fun x : UInt8 => x.toNat) (45 :: Lib.decDigits n.natAbs).head? = some 45 from rfl)]
    have e : numA (45 :: Lib.decDigits n.natAbs) 0 = numA (Lib.decDigits n.natAbs) 0 := by simp [numA]
    rw [e, numA_dec _ (by omega)]
    omega
  · rw [if_neg hn]
    unfold numS
    obtain ⟨c, r, e⟩ := List.exists_cons_of_ne_nil (dec_ne n.toNat)
    have hd := dec_digit n.toNat c (by rw [e]; simp)
    rw [if_neg (by rw [e]; simp; omega), numA_dec _ (by omega), wrap_id (by omega) (by omega)]
    omega

set_option maxRecDepth 100000 in
set_option maxHeartbeats 2000000 in
theorem number_any (s : ByteArray) (w : World) (hs : s.size ≤ 140737488355328) :
    Calls Tryz.prog 125 #[.string s] w fun e w' => e = .returned (.int .i64 (numS s.data.toList)) ∧ Below w.heap.size w w' := by
  have hl : s.data.toList.length = s.size := by simp
  go_enter Tryz.func125, Tryz.ntmps125
  go_wp2
  go_loopw [3, 4] (fun n i wr => ∃ (k : Nat) (a : Int), k ≤ s.size ∧ i = .int .i64 k ∧ n = .int .i64 a ∧ -9223372036854775808 ≤ a ∧ a ≤ 9223372036854775807 ∧ Hid (numA s.data.toList 0 = numA (s.data.toList.drop k) a) ∧ Below w.heap.size w wr) (fun _ i _ => s.size - (intOf i).toNat)
  case atStart => exact ⟨0, 0, by omega, rfl, rfl, by omega, by omega, (show numA s.data.toList 0 = numA (s.data.toList.drop 0) 0 by simp), Below.refl _ _⟩
  case round =>
    obtain ⟨k, a, hk, rfl, rfl, a1, a2, hN, hB⟩ := hrel
    by_cases hke : k = s.size
    · subst hke
      have e0 : Hid (numA s.data.toList 0 = a) := by
        have q := hN.out
        rw [List.drop_of_length_le (by omega)] at q
        exact q
      clear hN
      by_cases h0 : s.size = 0
      · have e1 : Hid (numS s.data.toList = wrap64 (-a)) := by
          show numS s.data.toList = _
          unfold numS
          rw [e0.out, List.eq_nil_of_length_eq_zero (hl.trans h0)]
          rfl
        have h0' : (s.size : Int) = 0 := by omega
        go_wp2
        go_ret
        exact ⟨ret_int e1.out.symm, hB⟩
      · have hp : 0 < s.size := by omega
        have hp' : (0 : Int) < s.size := by omega
        have hne : s.data.toList = s[0] :: s.data.toList.drop 1 := by
          have q := List.drop_eq_getElem_cons (l := s.data.toList) (i := 0) (by omega)
          rw [List.drop_zero] at q
          exact q
        obtain ⟨c, hc⟩ : ∃ c : UInt8, s[0] = c := ⟨_, rfl⟩
        rw [hc] at hne
        have hu : c.toNat < 256 := c.toNat_lt
        by_cases h45 : c.toNat = 45
        · have e1 : Hid (numS s.data.toList = a) := by
            show numS s.data.toList = _
            unfold numS
            rw [e0.out, hne]
            simp [h45]
          have q1 : ((c.toNat : Int) == 45) = true := by simp; omega
          clear hne h45 e0
          go_wp2
          go_ret
          exact ⟨ret_int e1.out.symm, hB⟩
        · have e1 : Hid (numS s.data.toList = wrap64 (-a)) := by
            show numS s.data.toList = _
            unfold numS
            rw [e0.out, hne]
            simp [h45]
          have q1 : ((c.toNat : Int) == 45) = false := by simp; omega
          clear hne h45 e0
          go_wp2
          go_ret
          exact ⟨ret_int e1.out.symm, hB⟩
    · have hk' : (k : Int) < s.size := by omega
      have hkk : k < s.size := by omega
      have hd : s.data.toList.drop k = s[k] :: s.data.toList.drop (k + 1) := by
        rw [List.drop_eq_getElem_cons (by omega)]
        rfl
      rw [hd] at hN
      clear hd
      obtain ⟨c, hc⟩ : ∃ c : UInt8, s[k] = c := ⟨_, rfl⟩
      rw [hc] at hN
      have hu : c.toNat < 256 := c.toNat_lt
      by_cases h1 : 48 ≤ c.toNat ∧ c.toNat ≤ 57
      · have q1 : 48 ≤ (c.toNat : Int) := by omega
        have q2 : (c.toNat : Int) ≤ 57 := by omega
        have wr1 := wrap_range (a * 10)
        have wr2 := wrap_range (wrap64 (a * 10) - (c.toNat - 48))
        have e0 : Hid (numA s.data.toList 0 = numA (s.data.toList.drop (k + 1)) (wrap64 (wrap64 (a * 10) - (c.toNat - 48)))) := by
          have q := hN.out
          rw [numA_cons, if_pos h1] at q
          exact q
        have W2 : Hid (-9223372036854775808 ≤ wrap64 (wrap64 (a * 10) - (c.toNat - 48)) ∧ wrap64 (wrap64 (a * 10) - (c.toNat - 48)) ≤ 9223372036854775807) := wr2
        clear hN h1 wr1 wr2
        go_wp2
        exact ⟨⟨k + 1, _, by omega, by simp, rfl, W2.out.1, W2.out.2, e0, hB⟩, by simp [intOf]; omega⟩
      · have e0 : Hid (numA s.data.toList 0 = numA (s.data.toList.drop (k + 1)) a) := by
          have q := hN.out
          rw [numA_cons, if_neg h1] at q
          exact q
        have q1 : (48 ≤ (c.toNat : Int)) = False ∨ ((48 ≤ (c.toNat : Int)) = True ∧ ((c.toNat : Int) ≤ 57) = False) := by
          by_cases g : 48 ≤ c.toNat
          · right; refine ⟨by simp; omega, by simp; omega⟩
          · left; simp; omega
        clear hN h1
        rcases q1 with q1 | ⟨q1, q2⟩
        · go_wp2
          exact ⟨⟨k + 1, a, by omega, by simp, rfl, a1, a2, e0, hB⟩, by simp [intOf]; omega⟩
        · go_wp2
          exact ⟨⟨k + 1, a, by omega, by simp, rfl, a1, a2, e0, hB⟩, by simp [intOf]; omega⟩

end Go.Proofs.YticmebamclacaaaGreatDoor

namespace Go.Proofs.YticmebamclacaaaGreatDoor
open Go.RowKit Go.Shelf
set_option linter.unusedVariables false

/-- What the document takes of a text behind its first quote; the last byte is left out. -/
def dq (l : List UInt8) : List UInt8 :=
  match l with
  | [] => []
  | [_] => []
  | c :: e :: r => if c.toNat = 92 then (if e.toNat = 120 then (match r with
      | [] => [e]
      | [_] => [e]
      | x :: y :: r' => UInt8.ofNat (16 * wth x + wth y) :: dq r') else e :: dq r) else c :: dq (e :: r)
termination_by l.length
decreasing_by all_goals simp; try omega
theorem dq_nil : dq [] = [] := by rw [dq]
theorem dq_one (c : UInt8) : dq [c] = [] := by rw [dq]
theorem dq_plain {c : UInt8} (e : UInt8) (r : List UInt8) (h : c.toNat ≠ 92) : dq (c :: e :: r) = c :: dq (e :: r) := by rw [dq.eq_def]; simp [h]
theorem dq_esc {c e : UInt8} (r : List UInt8) (h : c.toNat = 92) (g : e.toNat ≠ 120) : dq (c :: e :: r) = e :: dq r := by rw [dq.eq_def]; simp [h, g]
theorem dq_short {c e : UInt8} (r : List UInt8) (h : c.toNat = 92) (g : r.length ≤ 1) : dq (c :: e :: r) = e :: dq r := by
  match r, g with
  | [], _ => rw [dq.eq_def]; simp [h, dq_nil]
  | [x], _ => rw [dq.eq_def]; simp [h, dq_one]
  | _ :: _ :: _, g => simp at g
theorem dq_hex {c e : UInt8} (x y : UInt8) (r : List UInt8) (h : c.toNat = 92) (g : e.toNat = 120) : dq (c :: e :: x :: y :: r) = UInt8.ofNat (16 * wth x + wth y) :: dq r := by rw [dq.eq_def]; simp [h, g]
theorem dq_inside : ∀ l : List UInt8, dq (inside l ++ [34]) = l
  | [] => by simp [inside, dq_one]
  | c :: l => by
    have ih := dq_inside l
    have e : inside (c :: l) ++ [34] = esc c ++ (inside l ++ [34]) := by simp [inside]
    rw [e]
    obtain ⟨d, r, er⟩ := List.exists_cons_of_ne_nil (show inside l ++ [34] ≠ [] by simp)
    unfold esc
    have hc : c.toNat < 256 := c.toNat_lt
    by_cases h1 : c.toNat = 34 ∨ c.toNat = 92
    · rw [if_pos h1]
      show dq (92 :: c :: (inside l ++ [34])) = _
      rw [dq_esc _ rfl (by omega), ih]
    · rw [if_neg h1]
      by_cases h2 : 32 ≤ c.toNat ∧ c.toNat ≤ 126
      · rw [if_pos h2]
        show dq (c :: (inside l ++ [34])) = _
        rw [er, dq_plain _ _ (by omega), ← er, ih]
      · rw [if_neg h2]
        show dq (92 :: 120 :: hexd (c.toNat / 16) :: hexd (c.toNat % 16) :: (inside l ++ [34])) = _
        have e2 : UInt8.ofNat (16 * (c.toNat / 16) + c.toNat % 16) = c := by
          have : 16 * (c.toNat / 16) + c.toNat % 16 = c.toNat := by omega
          rw [this]
          exact UInt8.ofNat_toNat
        rw [dq_hex _ _ _ rfl rfl, wth_hexd _ (by omega), wth_hexd _ (by omega), e2, ih]
theorem dq_len : ∀ (n : Nat) (l : List UInt8), l.length ≤ n → (dq l).length ≤ l.length
  | _, [], _ => by rw [dq_nil]; simp
  | _, [c], _ => by rw [dq_one]; simp
  | 0, _ :: _ :: _, h => by simp at h
  | n + 1, c :: e :: r, h => by
    by_cases h1 : c.toNat = 92
    · by_cases h2 : e.toNat = 120
      · by_cases h3 : r.length ≤ 1
        · rw [dq_short r h1 h3]
          have := dq_len n r (by simp at h; omega)
          simp; omega
        · match r, h3 with
          | [], h3 => simp at h3
          | [_], h3 => simp at h3
          | x :: y :: r', _ =>
            rw [dq_hex x y r' h1 h2]
            have := dq_len n r' (by simp at h; omega)
            simp; omega
      · rw [dq_esc r h1 h2]
        have := dq_len n r (by simp at h; omega)
        simp; omega
    · rw [dq_plain e r h1]
      have := dq_len n (e :: r) (by simp at h ⊢; omega)
      simp at this ⊢; omega

theorem own_below {B : Nat} {v : Value} {L : List UInt8} {w W : World} (h : Own B v L w) (hb : Below w.heap.size w W) : Own B v L W :=
  World.ownsRow.kept (row := none) h ⟨hb.os, hb.tape, hb.output, hb.size, fun k hk _ => hb.block k hk⟩ (Classical.em _)

theorem drop_two (s : ByteArray) (k : Nat) (h : k + 1 < s.size) : s.data.toList.drop k = s[k] :: s[k + 1] :: s.data.toList.drop (k + 2) := by
  have hl : s.data.toList.length = s.size := by simp
  rw [List.drop_eq_getElem_cons (by omega), List.drop_eq_getElem_cons (i := k + 1) (by omega)]
  rfl

set_option maxHeartbeats 8000000 in
set_option maxRecDepth 100000 in
theorem dunq_any (s : ByteArray) (w : World) (hs : s.size ≤ 35184372088830) :
    Calls Tryz.prog 124 #[.string s] w fun e w' => e = .returned (.string ⟨(dq (s.data.toList.drop 1)).toArray⟩) ∧ Below w.heap.size w w' := by
  obtain ⟨i0, hi, hz0, hz1, hz2⟩ := info_parts inB
  have hl : s.data.toList.length = s.size := by simp
  have WO : Hid (∀ (c : UInt8) (W : World), Calls Tryz.prog 154 #[.int .u8 c.toNat] W fun e w' => e = .returned (.int .i64 (wth c)) ∧ Below W.heap.size W w') := fun c W => worth_any c W
  go_enter Tryz.func124, Tryz.ntmps124
  go_wp2
  go_loopw [3, 4] (fun b i wr => ∃ (k : Nat) (acc : List UInt8), 1 ≤ k ∧ k ≤ s.size + 1 ∧ acc.length ≤ k ∧ i = .int .i64 k ∧ Hid (dq (s.data.toList.drop 1) = acc ++ dq (s.data.toList.drop k)) ∧ Hid (Own w.heap.size b acc wr) ∧ Below w.heap.size w wr) (fun _ i _ => s.size + 1 - (intOf i).toNat)
  case atStart => exact ⟨1, [], by omega, by omega, by simp, rfl, rfl, World.ownsRow_nil w _ _ _, Below.refl _ _⟩
  case round =>
    obtain ⟨k, acc, hk0, hk, ha, rfl, hU, hI, hB⟩ := hrel
    have hsz := hB.size
    have hbk : ∀ q, u3.ownBlock = some q → w.heap.size ≤ q := fun q hq => (World.ownsRow.lt hI.out q hq).1
    have HK : Hid (∀ q, u3.ownBlock = some q → w.heap.size ≤ q) := hbk
    clear hbk
    by_cases hke : s.size ≤ k + 1
    · have hke' : (s.size : Int) - 1 ≤ k := by omega
      have e0 : Hid (dq (s.data.toList.drop 1) = acc) := by
        have q := hU.out
        have hr : dq (s.data.toList.drop k) = [] := by
          match hd : s.data.toList.drop k with
          | [] => exact dq_nil
          | [c] => exact dq_one c
          | _ :: _ :: _ =>
            have := congrArg List.length hd
            simp at this
            omega
        rw [hr, List.append_nil] at q
        exact q
      clear hU
      have cv : (convert 60 9 u3).run Tryz.prog wr = .ok (.string ⟨acc.toArray⟩) wr := by
        obtain ⟨hl, hv | ⟨g, cap, cur, hv, hg1, hg2, hg3, hg4, hg5, hg6⟩⟩ := hI.out
        · obtain ⟨rfl, hn⟩ := hv
          obtain rfl : acc = [] := List.eq_nil_of_length_eq_zero hn
          exact run_convert_bytes_nil wr 60 5 Tryz.underlying60 Tryz.underlying5 0 0 9 Tryz.underlying9
        · subst hv
          have hown : wr.ownsRow w.heap.size 5 1 (.slice (some ⟨g, 0, none⟩) acc.length cap) acc.length (Lib.byteCells acc) := hI.out
          exact run_convert_bytes_back wr 60 9 5 ⟨g, 0, none⟩ cap acc Tryz.underlying60 Tryz.underlying5 Tryz.underlying9 (fun j hj => by
            rw [Addr.add_lit, Nat.zero_add, hown.cellAt j (by omega)]
            simp [Lib.byteCells, List.getElem?_eq_getElem hj])
      go_wp2
      go_ret
      exact ⟨by rw [e0.out]; rfl, hB⟩
    · have hk1 : (k : Int) < s.size - 1 := by omega
      have hk2 : (k : Int) < s.size := by omega
      have hkk : k < s.size := by omega
      have hd := drop_two s k (by omega)
      rw [hd] at hU
      clear hd
      have hu : s[k].toNat < 256 := s[k].toNat_lt
      have hu1 : s[k + 1].toNat < 256 := s[k + 1].toNat_lt
      obtain ⟨c, hc⟩ : ∃ c : UInt8, s[k] = c := ⟨_, rfl⟩
      obtain ⟨f, hf⟩ : ∃ f : UInt8, s[k + 1] = f := ⟨_, rfl⟩
      rw [hc] at hu
      rw [hf] at hu1
      rw [hc, hf] at hU
      have hbd : acc.length + 1 ≤ 140737488355328 := by omega
      by_cases h1 : c.toNat = 92
      · have q1 : ((c.toNat : Int) != 92) = false := by simp; omega
        by_cases h2 : f.toNat = 120
        · have q2 : ((f.toNat : Int) != 120) = false := by simp; omega
          by_cases h3 : s.size ≤ k + 3
          · have q3 : (s.size : Int) ≤ k + 3 := by omega
            have hr : (s.data.toList.drop (k + 2)).length ≤ 1 := by simp; omega
            have e0 : Hid (dq (s.data.toList.drop 1) = (acc ++ [f]) ++ dq (s.data.toList.drop (k + 2))) := by
              have q := hU.out
              rw [dq_short _ h1 hr] at q
              exact q.trans (by simp)
            clear hU h1 h2 h3 hr
            have hk3 : (k : Int) + 1 < s.size := by omega
            go_wp2_with (at_builtin; refine wpList_append_own _ rfl (.tmp 36) (.tmp 41) 60 rfl w.heap.size 5 i0 (.int .u8 0) 1 1 Tryz.underlying60 hi hz0 hz1 hz2 rfl (by decide) _ _ _ rfl (World.ownsRow.alloc hI.out _) ⟨wr.heap.size, 0, none⟩ 1 1 [.int .u8 f.toNat] rfl rfl ?c1 ?c2 (by unfold maxLen; omega) (by omega) (by simp; omega) ?grow)
            case c1 => (intro j u hj; rw [Addr.add_lit]; (rcases j with _ | j) <;> simp at hj <;> subst hj <;> simp (maxDischargeDepth := 12) [go_sem])
            case c2 => (intro u hu; simp at hu; subst hu; rfl)
            case grow =>
              intro v' w2 h2 h3 _
              have o2 : Hid (Own w.heap.size v' (acc ++ [f]) w2) := own_more (M := [f]) h2 rfl
              have K2 : Below w.heap.size w w2 := Below.grown (hB.alloc hsz _) h3 (by simp; omega) HK.out
              clear h2 h3 hI HK
              go_wp2
              exact ⟨⟨k + 2, acc ++ [f], by omega, by omega, by simp; omega, by simp, e0, o2, K2⟩, by simp [intOf]; omega⟩
          · have q3 : ((s.size : Int) ≤ k + 3) = False := by simp; omega
            have hk3 : (k : Int) + 1 < s.size := by omega
            have hk4 : (k : Int) + 2 < s.size := by omega
            have hk5 : (k : Int) + 3 < s.size := by omega
            have hd := drop_two s (k + 2) (by omega)
            rw [hd] at hU
            clear hd
            obtain ⟨x, hx⟩ : ∃ x : UInt8, s[k + 2] = x := ⟨_, rfl⟩
            obtain ⟨y, hy⟩ : ∃ y : UInt8, s[k + 2 + 1] = y := ⟨_, rfl⟩
            have hy' : s[k + 3] = y := hy
            rw [hx, hy] at hU
            obtain ⟨X, eX⟩ : ∃ X : Nat, Hid (wth x = X) := ⟨_, rfl⟩
            obtain ⟨Y, eY⟩ : ∃ Y : Nat, Hid (wth y = Y) := ⟨_, rfl⟩
            have lX : X ≤ 16 := by rw [← eX.out]; exact wth_le x
            have lY : Y ≤ 16 := by rw [← eY.out]; exact wth_le y
            obtain ⟨z, ez⟩ : ∃ z : UInt8, Hid (UInt8.ofNat (16 * X + Y) = z) := ⟨_, rfl⟩
            have zw : IntKind.u8.wrap (16 * (X : Int) + (Y : Int)) = (z.toNat : Int) := by
              rw [← ez.out]
              simp [IntKind.wrap, IntKind.bits, IntKind.signed, UInt8.toNat_ofNat]
            have e0 : Hid (dq (s.data.toList.drop 1) = (acc ++ [z]) ++ dq (s.data.toList.drop (k + 4))) := by
              have q := hU.out
              rw [dq_hex _ _ _ h1 h2, eX.out, eY.out, ez.out] at q
              exact q.trans (by simp)
            have WX : Hid (∀ W : World, Calls Tryz.prog 154 #[.int .u8 x.toNat] W fun e w' => e = .returned (.int .i64 X) ∧ Below W.heap.size W w') := fun W => by
              have q := WO.out x W
              rw [eX.out] at q
              exact q
            have WY : Hid (∀ W : World, Calls Tryz.prog 154 #[.int .u8 y.toNat] W fun e w' => e = .returned (.int .i64 Y) ∧ Below W.heap.size W w') := fun W => by
              have q := WO.out y W
              rw [eY.out] at q
              exact q
            clear hU h1 h2 eX eY ez
            go_wp2_with fail
            refine (WX.out _).mono ?_
            rintro e wa ⟨rfl, ba⟩
            go_wp2_with fail
            refine (WY.out _).mono ?_
            rintro e wb ⟨rfl, bb⟩
            have bab : Below wr.heap.size wr wb := ba.trans (bb.mono ba.size)
            have hI2 : Hid (Own w.heap.size u3 acc wb) := own_below hI.out bab
            have hB2 : Below w.heap.size w wb := hB.trans (bab.mono hB.size)
            have hsz2 := hB2.size
            clear hI hB hsz ba bb bab
            go_wp2_with (at_builtin; refine wpList_append_own _ rfl (.tmp 55) (.tmp 61) 60 rfl w.heap.size 5 i0 (.int .u8 0) 1 1 Tryz.underlying60 hi hz0 hz1 hz2 rfl (by decide) _ _ _ rfl (World.ownsRow.alloc hI2.out _) ⟨wb.heap.size, 0, none⟩ 1 1 [.int .u8 z.toNat] rfl rfl ?c1 ?c2 (by unfold maxLen; omega) (by omega) (by simp; omega) ?grow)
            case c1 => (intro j u hj; rw [Addr.add_lit]; (rcases j with _ | j) <;> simp at hj <;> subst hj <;> simp (maxDischargeDepth := 12) [go_sem])
            case c2 => (intro u hu; simp at hu; subst hu; rfl)
            case grow =>
              intro v' w2 h2 h3 _
              have o2 : Hid (Own w.heap.size v' (acc ++ [z]) w2) := own_more (M := [z]) h2 rfl
              have K2 : Below w.heap.size w w2 := Below.grown (hB2.alloc hsz2 _) h3 (by simp; omega) HK.out
              clear h2 h3 hI2 HK
              go_wp2
              exact ⟨⟨k + 4, acc ++ [z], by omega, by omega, by simp; omega, by simp, e0, o2, K2⟩, by simp [intOf]; omega⟩
        · have q2 : ((f.toNat : Int) != 120) = true := by simp; omega
          have e0 : Hid (dq (s.data.toList.drop 1) = (acc ++ [f]) ++ dq (s.data.toList.drop (k + 2))) := by
            have q := hU.out
            rw [dq_esc _ h1 h2] at q
            exact q.trans (by simp)
          clear hU h1 h2
          have hk3 : (k : Int) + 1 < s.size := by omega
          go_wp2_with (at_builtin; refine wpList_append_own _ rfl (.tmp 36) (.tmp 41) 60 rfl w.heap.size 5 i0 (.int .u8 0) 1 1 Tryz.underlying60 hi hz0 hz1 hz2 rfl (by decide) _ _ _ rfl (World.ownsRow.alloc hI.out _) ⟨wr.heap.size, 0, none⟩ 1 1 [.int .u8 f.toNat] rfl rfl ?c1 ?c2 (by unfold maxLen; omega) (by omega) (by simp; omega) ?grow)
          case c1 => (intro j u hj; rw [Addr.add_lit]; (rcases j with _ | j) <;> simp at hj <;> subst hj <;> simp (maxDischargeDepth := 12) [go_sem])
          case c2 => (intro u hu; simp at hu; subst hu; rfl)
          case grow =>
            intro v' w2 h2 h3 _
            have o2 : Hid (Own w.heap.size v' (acc ++ [f]) w2) := own_more (M := [f]) h2 rfl
            have K2 : Below w.heap.size w w2 := Below.grown (hB.alloc hsz _) h3 (by simp; omega) HK.out
            clear h2 h3 hI HK
            go_wp2
            exact ⟨⟨k + 2, acc ++ [f], by omega, by omega, by simp; omega, by simp, e0, o2, K2⟩, by simp [intOf]; omega⟩
      · have q1 : ((c.toNat : Int) != 92) = true := by simp; omega
        have e0 : Hid (dq (s.data.toList.drop 1) = (acc ++ [c]) ++ dq (s.data.toList.drop (k + 1))) := by
          have q := hU.out
          rw [dq_plain _ _ h1] at q
          refine q.trans ?_
          rw [show s.data.toList.drop (k + 1) = f :: s.data.toList.drop (k + 2) by
            rw [List.drop_eq_getElem_cons (by omega), ← hf]; rfl]
          simp
        clear hU h1
        go_wp2_with (at_builtin; refine wpList_append_own _ rfl (.tmp 16) (.tmp 20) 60 rfl w.heap.size 5 i0 (.int .u8 0) 1 1 Tryz.underlying60 hi hz0 hz1 hz2 rfl (by decide) _ _ _ rfl (World.ownsRow.alloc hI.out _) ⟨wr.heap.size, 0, none⟩ 1 1 [.int .u8 c.toNat] rfl rfl ?c1 ?c2 (by unfold maxLen; omega) (by omega) (by simp; omega) ?grow)
        case c1 => (intro j u hj; rw [Addr.add_lit]; (rcases j with _ | j) <;> simp at hj <;> subst hj <;> simp (maxDischargeDepth := 12) [go_sem])
        case c2 => (intro u hu; simp at hu; subst hu; rfl)
        case grow =>
          intro v' w2 h2 h3 _
          have o2 : Hid (Own w.heap.size v' (acc ++ [c]) w2) := own_more (M := [c]) h2 rfl
          have K2 : Below w.heap.size w w2 := Below.grown (hB.alloc hsz _) h3 (by simp; omega) HK.out
          clear h2 h3 hI HK
          go_wp2
          exact ⟨⟨k + 1, acc ++ [c], by omega, by omega, by simp; omega, by simp, e0, o2, K2⟩, by simp [intOf]; omega⟩

end Go.Proofs.YticmebamclacaaaGreatDoor
