/- The plain mathematics of texts of values: ParseInt of a number's digits, the cut at a slash; the walk of strings.Cut at a slash. -/
import Derived.Test.YtedoahibceeklabGreatDoorVUnq
namespace Go.Proofs.YtedoahibceeklabGreatDoor
open Go.RowKit Go.Shelf
set_option linter.unusedVariables false

theorem pum_append (M : Nat) : ∀ (l r : List UInt8) (acc a : Nat), Lib.parseUintM M acc l = .ok a → Lib.parseUintM M acc (l ++ r) = Lib.parseUintM M a r
  | [], r, acc, a, h => by simp [Lib.parseUintM] at h; simp [h]
  | c :: l, r, acc, a, h => by
    simp only [Lib.parseUintM, List.cons_append] at h ⊢
    split at h
    · rename_i h1
      rw [if_pos h1]
      split at h
      · cases h
      · rename_i h2
        rw [if_neg h2]
        split at h
        · cases h
        · rename_i h3
          rw [if_neg h3]
          exact pum_append M l r _ a h
    · cases h
theorem dg_nat (d : Nat) (h : d < 10) : (UInt8.ofNat (48 + d)).toNat = 48 + d := by simp [UInt8.toNat_ofNat]; omega
theorem pum_dec : ∀ (u : Nat), u ≤ 18446744073709551615 → Lib.parseUintM 18446744073709551615 0 (Lib.decDigits u) = .ok u := by
  intro u
  induction u using Nat.strongRecOn with
  | _ u ih =>
    intro hu
    by_cases h : u < 10
    · rw [Lib.decDigits_one h]
      have e := dg_nat u h
      simp only [Lib.parseUintM, e]
      rw [if_pos (by omega), if_neg (by omega), if_neg (by omega)]
      congr 1
      omega
    · have e := dg_nat (u % 10) (by omega)
      rw [Lib.decDigits, dif_neg h, pum_append _ _ _ _ _ (ih (u / 10) (by omega) (by omega))]
      simp only [Lib.parseUintM, e]
      rw [if_pos (by omega), if_neg (by omega), if_neg (by omega)]
      congr 1
      omega
theorem dec_ne (u : Nat) : Lib.decDigits u ≠ [] := by
  rw [Lib.decDigits]
  split <;> simp
theorem dec_digit : ∀ (u : Nat) (c : UInt8), c ∈ Lib.decDigits u → 48 ≤ c.toNat ∧ c.toNat ≤ 57 := by
  intro u
  induction u using Nat.strongRecOn with
  | _ u ih =>
    intro c hc
    by_cases h : u < 10
    · rw [Lib.decDigits_one h] at hc
      simp only [List.mem_singleton] at hc
      subst hc
      have e := dg_nat u h
      omega
    · rw [Lib.decDigits, dif_neg h] at hc
      rcases List.mem_append.1 hc with hc | hc
      · exact ih (u / 10) (by omega) c hc
      · simp only [List.mem_singleton] at hc
        subst hc
        have e := dg_nat (u % 10) (by omega)
        omega
theorem pint_itoa {n : Int} (h1 : -9223372036854775808 ≤ n) (h2 : n ≤ 9223372036854775807) : Lib.parseIntB 64 (Lib.itoa n) = .ok n := by
  have p64 : (2 : Nat) ^ 64 - 1 = 18446744073709551615 := by decide
  have p63 : (2 : Nat) ^ (64 - 1) = 9223372036854775808 := by decide
  unfold Lib.itoa
  by_cases hn : n < 0
  · rw [if_pos hn]
    unfold Lib.parseIntB
    simp only []
    have e : ((45 : UInt8).toNat = 45) := rfl
    rw [if_pos (show UInt8.toNat 45 = 43 ∨ UInt8.toNat 45 = 45 from Or.inr e)]
    unfold Lib.parseUintB
    rw [if_neg (dec_ne _), p64, pum_dec n.natAbs (by omega), p63]
    simp only []
    rw [if_neg (fun h => h.1 e), if_neg (by omega), if_pos e]
    congr 1
    omega
  · rw [if_neg hn]
    obtain ⟨c, r, e⟩ := List.exists_cons_of_ne_nil (dec_ne n.toNat)
    have hd := dec_digit n.toNat c (by rw [e]; simp)
    have hp := pum_dec n.toNat (by omega)
    rw [e] at hp ⊢
    unfold Lib.parseIntB
    simp only []
    rw [if_neg (by omega)]
    unfold Lib.parseUintB
    rw [if_neg (by simp), p64, hp, p63]
    simp only []
    rw [if_neg (by omega), if_neg (by omega), if_neg (by omega)]
    congr 1
    omega
theorem itoa_no {n : Int} {c : UInt8} (h : c ∈ Lib.itoa n) : c.toNat = 45 ∨ (48 ≤ c.toNat ∧ c.toNat ≤ 57) := by
  unfold Lib.itoa at h
  split at h
  · rcases List.mem_cons.1 h with h | h
    · subst h; exact Or.inl rfl
    · exact Or.inr (dec_digit _ c h)
  · exact Or.inr (dec_digit _ c h)
theorem itoa_ne (n : Int) : Lib.itoa n ≠ [] := by
  unfold Lib.itoa
  split
  · simp
  · exact dec_ne _
/-- A text cut at its first slash. -/
def cutL : List UInt8 → List UInt8 × List UInt8 × Bool
  | [] => ([], [], false)
  | c :: r => if c.toNat = 47 then ([], r, true) else (c :: (cutL r).1, (cutL r).2.1, (cutL r).2.2)
theorem cutL_none : ∀ (l : List UInt8), (∀ c ∈ l, c.toNat ≠ 47) → cutL l = (l, [], false)
  | [], _ => rfl
  | c :: r, h => by
    have ih := cutL_none r (fun x hx => h x (by simp [hx]))
    simp [cutL, h c (by simp), ih]
theorem cutL_some : ∀ (l r : List UInt8), (∀ c ∈ l, c.toNat ≠ 47) → cutL (l ++ 47 :: r) = (l, r, true)
  | [], r, _ => by simp [cutL]
  | c :: l, r, h => by
    have ih := cutL_some l r (fun x hx => h x (by simp [hx]))
    simp [cutL, h c (by simp), ih]
/-- What ParseInt tells: the number, and whether there is no error. -/
def pint (l : List UInt8) : Int × Bool := match Lib.parseIntB 64 l with
  | .ok v => (v, true)
  | .«syntax» => (0, false)
  | .range => (Lib.intSat 64 l, false)
theorem pint_of {n : Int} (h1 : -9223372036854775808 ≤ n) (h2 : n ≤ 9223372036854775807) : pint (Lib.itoa n) = (n, true) := by
  unfold pint
  rw [pint_itoa h1 h2]
theorem pint_fits (l : List UInt8) : -9223372036854775808 ≤ (pint l).1 ∧ (pint l).1 ≤ 9223372036854775807 := by
  unfold pint
  split
  · rename_i v h
    have p63 : (2 : Nat) ^ (64 - 1) = 9223372036854775808 := by decide
    unfold Lib.parseIntB at h
    split at h
    · cases h
    · simp only [] at h
      split at h
      · cases h
      · cases h
      · rw [p63] at h
        split at h
        · cases h
        · split at h
          · cases h
          · simp only [Lib.NumEnd.ok.injEq] at h
            rw [← h]
            split <;> simp only [] <;> omega
  · simp
  · unfold Lib.intSat
    have p63 : (2 : Nat) ^ (64 - 1) = 9223372036854775808 := by decide
    rw [p63]
    split <;> simp

theorem cutL_no : ∀ (l : List UInt8), (cutL l).2.2 = false → cutL l = (l, [], false) ∧ Lib.indexByte l 47 = -1
  | [], _ => ⟨rfl, rfl⟩
  | c :: r, h => by
    unfold cutL at h ⊢
    by_cases hc : c.toNat = 47
    · rw [if_pos hc] at h; cases h
    · rw [if_neg hc] at h ⊢
      obtain ⟨h1, h2⟩ := cutL_no r h
      have h3 : (c == 47) = false := by simp; intro e; exact hc (by rw [e]; rfl)
      refine ⟨by rw [h1], ?_⟩
      unfold Lib.indexByte
      rw [h3, h2]
      rfl
theorem cutL_yes : ∀ (l : List UInt8), (cutL l).2.2 = true → l = (cutL l).1 ++ 47 :: (cutL l).2.1 ∧ Lib.indexByte l 47 = ((cutL l).1.length : Int)
  | [], h => by cases h
  | c :: r, h => by
    unfold cutL at h ⊢
    by_cases hc : c.toNat = 47
    · rw [if_pos hc]
      have e : c = 47 := UInt8.toNat_inj.1 hc
      subst e
      exact ⟨rfl, rfl⟩
    · rw [if_neg hc] at h ⊢
      obtain ⟨h1, h2⟩ := cutL_yes r h
      have h3 : (c == 47) = false := by simp; intro e; exact hc (by rw [e]; rfl)
      refine ⟨by simp only [List.cons_append]; rw [← h1], ?_⟩
      unfold Lib.indexByte
      rw [h3, h2]
      have h4 : (((cutL r).1.length : Int) == -1) = false := by simp
      simp [h4]

theorem ext_take (s : ByteArray) (k : Nat) (h : k ≤ s.size) : (s.extract 0 k).data.toList = s.data.toList.take k := by
  simp [ByteArray.data_extract]
theorem ext_drop (s : ByteArray) (k : Nat) (h : k ≤ s.size) : (s.extract k s.size).data.toList = s.data.toList.drop k := by
  have e : s.data.size = s.size := rfl
  simp [ByteArray.data_extract, List.take_of_length_le, e]
theorem ba_eq {a : ByteArray} {l : List UInt8} (h : a.data.toList = l) : a = ⟨l.toArray⟩ := by
  apply ByteArray.ext
  rw [← h]

set_option maxRecDepth 100000 in
set_option maxHeartbeats 2000000 in
theorem cut_no (s : ByteArray) (w : World) (h : (cutL s.data.toList).2.2 = false) :
    Calls Tryz.prog 46 #[.string s, .string ⟨#[47]⟩] w fun e w' => e = .returned (.tuple #[.string s, .string ⟨#[]⟩, .bool false]) ∧ ∃ k, w' = w.drewN k := by
  have H : Hid (∀ W : World, Calls Tryz.prog 64 #[.string s, .string ⟨#[47]⟩] W fun e w' => e = .returned (.tuple #[.string s, .string ⟨#[]⟩, .bool false]) ∧ ∃ k, w' = W.drewN k) := fun W => by
    have I : Hid (∀ W : World, Calls Tryz.prog 84 #[.string s, .string ⟨#[47]⟩] W fun e w' => e = .returned (.int .i64 (-1)) ∧ w' = W) := fun W => by
      have q := Tryz.stringslite_Index_one s 47 W
      rw [(cutL_no _ h).2] at q
      exact q
    clear h
    go_enter Tryz.func64, Tryz.ntmps64
    go_wp2_with fail
    refine (I.out _).mono ?_
    rintro e w1 ⟨rfl, rfl⟩
    go_wp2
    refine bodyPost_ret (by simp [results, Tryz.results64, go_sem]; try rfl) rfl ?_
    exact ⟨rfl, 0, rfl⟩
  clear h
  go_enter Tryz.func46, Tryz.ntmps46
  go_wp2_with fail
  refine (H.out _).mono ?_
  rintro e w1 ⟨rfl, k, rfl⟩
  go_wp2
  refine bodyPost_ret (by simp [results, Tryz.results46, go_sem]; try rfl) rfl ?_
  exact ⟨rfl, k, rfl⟩

set_option maxRecDepth 100000 in
set_option maxHeartbeats 2000000 in
theorem cut_yes (s : ByteArray) (w : World) (h : (cutL s.data.toList).2.2 = true) (hs : s.size ≤ 140737488355328) :
    Calls Tryz.prog 46 #[.string s, .string ⟨#[47]⟩] w fun e w' => e = .returned (.tuple #[.string ⟨(cutL s.data.toList).1.toArray⟩, .string ⟨(cutL s.data.toList).2.1.toArray⟩, .bool true]) ∧ ∃ k, w' = w.drewN k := by
  obtain ⟨h1, h2⟩ := cutL_yes _ h
  obtain ⟨A, eA⟩ : ∃ A : ByteArray, Hid ((⟨(cutL s.data.toList).1.toArray⟩ : ByteArray) = A) := ⟨_, rfl⟩
  obtain ⟨B, eB⟩ : ∃ B : ByteArray, Hid ((⟨(cutL s.data.toList).2.1.toArray⟩ : ByteArray) = B) := ⟨_, rfl⟩
  obtain ⟨n, en⟩ : ∃ n : Nat, Hid ((cutL s.data.toList).1.length = n) := ⟨_, rfl⟩
  have hl : s.data.toList.length = n + 1 + (cutL s.data.toList).2.1.length := by
    have := congrArg List.length h1
    rw [List.length_append, List.length_cons, en.out] at this
    omega
  have hsz : s.data.toList.length = s.size := by simp
  have hn : n + 1 ≤ s.size := by omega
  have x1 : s.extract 0 n = A := by
    rw [← eA.out]
    refine ba_eq ?_
    rw [ext_take s n (by omega)]
    generalize cutL s.data.toList = c at h1 en
    rw [h1, ← en.out]
    simp
  have x2 : s.extract (n + 1) s.size = B := by
    rw [← eB.out]
    refine ba_eq ?_
    rw [ext_drop s (n + 1) hn]
    generalize cutL s.data.toList = c at h1 en
    rw [h1, ← en.out, List.drop_append]
    simp
  rw [eA.out, eB.out]
  have H : Hid (∀ W : World, Calls Tryz.prog 64 #[.string s, .string ⟨#[47]⟩] W fun e w' => e = .returned (.tuple #[.string A, .string B, .bool true]) ∧ ∃ k, w' = W.drewN k) := fun W => by
    have I : Hid (∀ W : World, Calls Tryz.prog 84 #[.string s, .string ⟨#[47]⟩] W fun e w' => e = .returned (.int .i64 n) ∧ w' = W) := fun W => by
      have q := Tryz.stringslite_Index_one s 47 W
      rw [h2, en.out] at q
      exact q
    clear h h1 h2 eA eB en hl hsz
    have z1 : (⟨#[47]⟩ : ByteArray).size = 1 := rfl
    have hn0 : (n : Int) ≤ s.size := by omega
    have hn1 : (n : Int) + 1 ≤ s.size := by omega
    go_enter Tryz.func64, Tryz.ntmps64
    go_wp2_with fail
    refine (I.out _).mono ?_
    rintro e w1 ⟨rfl, rfl⟩
    go_wp2
    go_quiet (fail)
    go_wp2
    refine bodyPost_ret (by simp [results, Tryz.results64, go_sem]; try rfl) rfl ?_
    exact ⟨rfl, nq, rfl⟩
  clear h h1 h2 eA eB en x1 x2 hl hsz
  go_enter Tryz.func46, Tryz.ntmps46
  go_wp2_with fail
  refine (H.out _).mono ?_
  rintro e w1 ⟨rfl, k, rfl⟩
  go_wp2
  refine bodyPost_ret (by simp [results, Tryz.results46, go_sem]; try rfl) rfl ?_
  exact ⟨rfl, k, rfl⟩

end Go.Proofs.YtedoahibceeklabGreatDoor
