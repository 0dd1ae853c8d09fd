/- Where a quoted text ends: quoted, from state to state. -/
import Derived.Test.YtmegombglkcccaaDoorZ02
import Derived.Test.YtmegombglkcccaaDoorRows
import Derived.WalkKit
import Derived.WalkSpells
import Derived.WalkLawsBesides
import Derived.Handy
import Derived.BigQuiet
import Derived.Deep.QuietTactic
import Derived.WalkMore
import Derived.ScopeJumps
import Derived.Deep.RegionHeld3

namespace Go.Proofs.YtmegombglkcccaaDoor
open Go.RowKit Go.Shelf
set_option linter.unusedVariables false

theorem pum_append (M : Nat) : ∀ (l r : List UInt8) (acc a : Nat), Lib.parseUintM M acc l = .ok a → Lib.parseUintM M acc (l ++ r) = Lib.parseUintM M a r
  | [], r, acc, a, h => by simp [Lib.parseUintM] at h; simp [h]
  | c :: l, r, acc, a, h => by
    simp only [Lib.parseUintM, List.cons_append] at h ⊢
    split at h
    · rename_i h1
      rw [if_pos h1]
      split at h
      · cases h
      · rename_i h2
        rw [if_neg h2]
        split at h
        · cases h
        · rename_i h3
          rw [if_neg h3]
          exact pum_append M l r _ a h
    · cases h
theorem dg_nat (d : Nat) (h : d < 10) : (UInt8.ofNat (48 + d)).toNat = 48 + d := by simp [UInt8.toNat_ofNat]; omega
theorem pum_dec : ∀ (u : Nat), u ≤ 18446744073709551615 → Lib.parseUintM 18446744073709551615 0 (Lib.decDigits u) = .ok u := by
  intro u
  induction u using Nat.strongRecOn with
  | _ u ih =>
    intro hu
    by_cases h : u < 10
    · rw [Lib.decDigits_one h]
      have e := dg_nat u h
      simp only [Lib.parseUintM, e]
      rw [if_pos (by omega), if_neg (by omega), if_neg (by omega)]
      congr 1
      omega
    · have e := dg_nat (u % 10) (by omega)
      rw [Lib.decDigits, dif_neg h, pum_append _ _ _ _ _ (ih (u / 10) (by omega) (by omega))]
      simp only [Lib.parseUintM, e]
      rw [if_pos (by omega), if_neg (by omega), if_neg (by omega)]
      congr 1
      omega
theorem dec_ne (u : Nat) : Lib.decDigits u ≠ [] := by
  rw [Lib.decDigits]
  split <;> simp
theorem dec_digit : ∀ (u : Nat) (c : UInt8), c ∈ Lib.decDigits u → 48 ≤ c.toNat ∧ c.toNat ≤ 57 := by
  intro u
  induction u using Nat.strongRecOn with
  | _ u ih =>
    intro c hc
    by_cases h : u < 10
    · rw [Lib.decDigits_one h] at hc
      simp only [List.mem_singleton] at hc
      subst hc
      have e := dg_nat u h
      omega
    · rw [Lib.decDigits, dif_neg h] at hc
      rcases List.mem_append.1 hc with hc | hc
      · exact ih (u / 10) (by omega) c hc
      · simp only [List.mem_singleton] at hc
        subst hc
        have e := dg_nat (u % 10) (by omega)
        omega
theorem pint_itoa {n : Int} (h1 : -9223372036854775808 ≤ n) (h2 : n ≤ 9223372036854775807) : Lib.parseIntB 64 (Lib.itoa n) = .ok n := by
  have p64 : (2 : Nat) ^ 64 - 1 = 18446744073709551615 := by decide
  have p63 : (2 : Nat) ^ (64 - 1) = 9223372036854775808 := by decide
  unfold Lib.itoa
  by_cases hn : n < 0
  · rw [if_pos hn]
    unfold Lib.parseIntB
    simp only []
    have e : ((45 : UInt8).toNat = 45) := rfl
    rw [if_pos (show UInt8.toNat 45 = 43 ∨ UInt8.toNat 45 = 45 from Or.inr e)]
    unfold Lib.parseUintB
    rw [if_neg (dec_ne _), p64, pum_dec n.natAbs (by omega), p63]
    simp only []
    rw [if_neg (fun h => h.1 e), if_neg (by omega), if_pos e]
    congr 1
    omega
  · rw [if_neg hn]
    obtain ⟨c, r, e⟩ := List.exists_cons_of_ne_nil (dec_ne n.toNat)
    have hd := dec_digit n.toNat c (by rw [e]; simp)
    have hp := pum_dec n.toNat (by omega)
    rw [e] at hp ⊢
    unfold Lib.parseIntB
    simp only []
    rw [if_neg (by omega)]
    unfold Lib.parseUintB
    rw [if_neg (by simp), p64, hp, p63]
    simp only []
    rw [if_neg (by omega), if_neg (by omega), if_neg (by omega)]
    congr 1
    omega
theorem itoa_no {n : Int} {c : UInt8} (h : c ∈ Lib.itoa n) : c.toNat = 45 ∨ (48 ≤ c.toNat ∧ c.toNat ≤ 57) := by
  unfold Lib.itoa at h
  split at h
  · rcases List.mem_cons.1 h with h | h
    · subst h; exact Or.inl rfl
    · exact Or.inr (dec_digit _ c h)
  · exact Or.inr (dec_digit _ c h)
theorem itoa_ne (n : Int) : Lib.itoa n ≠ [] := by
  unfold Lib.itoa
  split
  · simp
  · exact dec_ne _
/-- A text cut at its first slash. -/
def cutL : List UInt8 → List UInt8 × List UInt8 × Bool
  | [] => ([], [], false)
  | c :: r => if c.toNat = 47 then ([], r, true) else (c :: (cutL r).1, (cutL r).2.1, (cutL r).2.2)
theorem cutL_none : ∀ (l : List UInt8), (∀ c ∈ l, c.toNat ≠ 47) → cutL l = (l, [], false)
  | [], _ => rfl
  | c :: r, h => by
    have ih := cutL_none r (fun x hx => h x (by simp [hx]))
    simp [cutL, h c (by simp), ih]
theorem cutL_some : ∀ (l r : List UInt8), (∀ c ∈ l, c.toNat ≠ 47) → cutL (l ++ 47 :: r) = (l, r, true)
  | [], r, _ => by simp [cutL]
  | c :: l, r, h => by
    have ih := cutL_some l r (fun x hx => h x (by simp [hx]))
    simp [cutL, h c (by simp), ih]
/-- What ParseInt tells: the number, and whether there is no error. -/
def pint (l : List UInt8) : Int × Bool := match Lib.parseIntB 64 l with
  | .ok v => (v, true)
  | .«syntax» => (0, false)
  | .range => (Lib.intSat 64 l, false)
theorem pint_of {n : Int} (h1 : -9223372036854775808 ≤ n) (h2 : n ≤ 9223372036854775807) : pint (Lib.itoa n) = (n, true) := by
  unfold pint
  rw [pint_itoa h1 h2]
theorem pint_fits (l : List UInt8) : -9223372036854775808 ≤ (pint l).1 ∧ (pint l).1 ≤ 9223372036854775807 := by
  unfold pint
  split
  · rename_i v h
    have p63 : (2 : Nat) ^ (64 - 1) = 9223372036854775808 := by decide
    unfold Lib.parseIntB at h
    split at h
    · cases h
    · simp only [] at h
      split at h
      · cases h
      · cases h
      · rw [p63] at h
        split at h
        · cases h
        · split at h
          · cases h
          · simp only [Lib.NumEnd.ok.injEq] at h
            rw [← h]
            split <;> simp only [] <;> omega
  · simp
  · unfold Lib.intSat
    have p63 : (2 : Nat) ^ (64 - 1) = 9223372036854775808 := by decide
    rw [p63]
    split <;> simp

theorem cutL_no : ∀ (l : List UInt8), (cutL l).2.2 = false → cutL l = (l, [], false) ∧ Lib.indexByte l 47 = -1
  | [], _ => ⟨rfl, rfl⟩
  | c :: r, h => by
    unfold cutL at h ⊢
    by_cases hc : c.toNat = 47
    · rw [if_pos hc] at h; cases h
    · rw [if_neg hc] at h ⊢
      obtain ⟨h1, h2⟩ := cutL_no r h
      have h3 : (c == 47) = false := by simp; intro e; exact hc (by rw [e]; rfl)
      refine ⟨by rw [h1], ?_⟩
      unfold Lib.indexByte
      rw [h3, h2]
      rfl
theorem cutL_yes : ∀ (l : List UInt8), (cutL l).2.2 = true → l = (cutL l).1 ++ 47 :: (cutL l).2.1 ∧ Lib.indexByte l 47 = ((cutL l).1.length : Int)
  | [], h => by cases h
  | c :: r, h => by
    unfold cutL at h ⊢
    by_cases hc : c.toNat = 47
    · rw [if_pos hc]
      have e : c = 47 := UInt8.toNat_inj.1 hc
      subst e
      exact ⟨rfl, rfl⟩
    · rw [if_neg hc] at h ⊢
      obtain ⟨h1, h2⟩ := cutL_yes r h
      have h3 : (c == 47) = false := by simp; intro e; exact hc (by rw [e]; rfl)
      refine ⟨by simp only [List.cons_append]; rw [← h1], ?_⟩
      unfold Lib.indexByte
      rw [h3, h2]
      have h4 : (((cutL r).1.length : Int) == -1) = false := by simp
      simp [h4]

theorem ext_take (s : ByteArray) (k : Nat) (h : k ≤ s.size) : (s.extract 0 k).data.toList = s.data.toList.take k := by
  simp [ByteArray.data_extract]
theorem ext_drop (s : ByteArray) (k : Nat) (h : k ≤ s.size) : (s.extract k s.size).data.toList = s.data.toList.drop k := by
  have e : s.data.size = s.size := rfl
  simp [ByteArray.data_extract, List.take_of_length_le, e]
theorem ba_eq {a : ByteArray} {l : List UInt8} (h : a.data.toList = l) : a = ⟨l.toArray⟩ := by
  apply ByteArray.ext
  rw [← h]

set_option maxRecDepth 100000 in
set_option maxHeartbeats 2000000 in
theorem cut_no (s : ByteArray) (w : World) (h : (cutL s.data.toList).2.2 = false) :
    Calls Tryd.prog 25 #[.string s, .string ⟨#[47]⟩] w fun e w' => e = .returned (.tuple #[.string s, .string ⟨#[]⟩, .bool false]) ∧ ∃ k, w' = w.drewN k := by
  have H : Hid (∀ W : World, Calls Tryd.prog 30 #[.string s, .string ⟨#[47]⟩] W fun e w' => e = .returned (.tuple #[.string s, .string ⟨#[]⟩, .bool false]) ∧ ∃ k, w' = W.drewN k) := fun W => by
    have I : Hid (∀ W : World, Calls Tryd.prog 37 #[.string s, .string ⟨#[47]⟩] W fun e w' => e = .returned (.int .i64 (-1)) ∧ w' = W) := fun W => by
      have q := Tryd.stringslite_Index_one s 47 W
      rw [(cutL_no _ h).2] at q
      exact q
    clear h
    go_enter Tryd.func30, Tryd.ntmps30
    go_wp2_with fail
    refine (I.out _).mono ?_
    rintro e w1 ⟨rfl, rfl⟩
    go_wp2
    refine bodyPost_ret (by simp [results, Tryd.results30, go_sem]; try rfl) rfl ?_
    exact ⟨rfl, 0, rfl⟩
  clear h
  go_enter Tryd.func25, Tryd.ntmps25
  go_wp2_with fail
  refine (H.out _).mono ?_
  rintro e w1 ⟨rfl, k, rfl⟩
  go_wp2
  refine bodyPost_ret (by simp [results, Tryd.results25, go_sem]; try rfl) rfl ?_
  exact ⟨rfl, k, rfl⟩

set_option maxRecDepth 100000 in
set_option maxHeartbeats 2000000 in
theorem cut_yes (s : ByteArray) (w : World) (h : (cutL s.data.toList).2.2 = true) (hs : s.size ≤ 140737488355328) :
    Calls Tryd.prog 25 #[.string s, .string ⟨#[47]⟩] w fun e w' => e = .returned (.tuple #[.string ⟨(cutL s.data.toList).1.toArray⟩, .string ⟨(cutL s.data.toList).2.1.toArray⟩, .bool true]) ∧ ∃ k, w' = w.drewN k := by
  obtain ⟨h1, h2⟩ := cutL_yes _ h
  obtain ⟨A, eA⟩ : ∃ A : ByteArray, Hid ((⟨(cutL s.data.toList).1.toArray⟩ : ByteArray) = A) := ⟨_, rfl⟩
  obtain ⟨B, eB⟩ : ∃ B : ByteArray, Hid ((⟨(cutL s.data.toList).2.1.toArray⟩ : ByteArray) = B) := ⟨_, rfl⟩
  obtain ⟨n, en⟩ : ∃ n : Nat, Hid ((cutL s.data.toList).1.length = n) := ⟨_, rfl⟩
  have hl : s.data.toList.length = n + 1 + (cutL s.data.toList).2.1.length := by
    have := congrArg List.length h1
    rw [List.length_append, List.length_cons, en.out] at this
    omega
  have hsz : s.data.toList.length = s.size := by simp
  have hn : n + 1 ≤ s.size := by omega
  have x1 : s.extract 0 n = A := by
    rw [← eA.out]
    refine ba_eq ?_
    rw [ext_take s n (by omega)]
    generalize cutL s.data.toList = c at h1 en
    rw [h1, ← en.out]
    simp
  have x2 : s.extract (n + 1) s.size = B := by
    rw [← eB.out]
    refine ba_eq ?_
    rw [ext_drop s (n + 1) hn]
    generalize cutL s.data.toList = c at h1 en
    rw [h1, ← en.out, List.drop_append]
    simp
  rw [eA.out, eB.out]
  have H : Hid (∀ W : World, Calls Tryd.prog 30 #[.string s, .string ⟨#[47]⟩] W fun e w' => e = .returned (.tuple #[.string A, .string B, .bool true]) ∧ ∃ k, w' = W.drewN k) := fun W => by
    have I : Hid (∀ W : World, Calls Tryd.prog 37 #[.string s, .string ⟨#[47]⟩] W fun e w' => e = .returned (.int .i64 n) ∧ w' = W) := fun W => by
      have q := Tryd.stringslite_Index_one s 47 W
      rw [h2, en.out] at q
      exact q
    clear h h1 h2 eA eB en hl hsz
    have z1 : (⟨#[47]⟩ : ByteArray).size = 1 := rfl
    have hn0 : (n : Int) ≤ s.size := by omega
    have hn1 : (n : Int) + 1 ≤ s.size := by omega
    go_enter Tryd.func30, Tryd.ntmps30
    go_wp2_with fail
    refine (I.out _).mono ?_
    rintro e w1 ⟨rfl, rfl⟩
    go_wp2
    go_quiet (fail)
    go_wp2
    refine bodyPost_ret (by simp [results, Tryd.results30, go_sem]; try rfl) rfl ?_
    exact ⟨rfl, nq, rfl⟩
  clear h h1 h2 eA eB en x1 x2 hl hsz
  go_enter Tryd.func25, Tryd.ntmps25
  go_wp2_with fail
  refine (H.out _).mono ?_
  rintro e w1 ⟨rfl, k, rfl⟩
  go_wp2
  refine bodyPost_ret (by simp [results, Tryd.results25, go_sem]; try rfl) rfl ?_
  exact ⟨rfl, k, rfl⟩

end Go.Proofs.YtmegombglkcccaaDoor

namespace Go.Proofs.YtmegombglkcccaaDoor
open Go.RowKit Go.Shelf
set_option linter.unusedVariables false

theorem trim_len (l : List UInt8) : (Lib.trimSuffix l [34]).length ≤ l.length := by unfold Lib.trimSuffix; split <;> simp
theorem unquote_any (t : ByteArray) (w : World) (hs : t.size ≤ 140737488355000) (he : Errs w) (h8 : 6 ≤ w.heap.size) :
    Calls Tryd.prog 32 #[.string t] w fun e w' => e = .returned (.tuple #[.string (outS (unqS t.data.toList)), .bool (outB (unqS t.data.toList))]) ∧ Below w.heap.size w w' := by
  cases h : Lib.hasSuffix t.data.toList [34]
  · have e0 : unqS t.data.toList = none := by simp [unqS, h]
    rw [e0]
    exact unquote_no t w (by omega) h
  · have e0 : unqS t.data.toList = unq (Lib.trimSuffix t.data.toList [34]) := by simp [unqS, h]
    rw [e0]
    have hl := trim_len t.data.toList
    have hl2 : t.data.toList.length = t.size := by simp
    have q := unquote_yes t _ w (by omega) h rfl (by show (Lib.trimSuffix t.data.toList [34]).toArray.size ≤ _; simp; omega) he h8
    exact q

theorem pi_yes (s : ByteArray) (w : World) (hs : s.size ≤ 140737488355328) (h : (pint s.data.toList).2 = true) :
    Calls Tryd.prog 33 #[.string s, .int .i64 10, .int .i64 64] w fun e w' => e = .returned (.tuple #[.int .i64 (pint s.data.toList).1, .nilIface]) ∧ Below w.heap.size w w' := by
  cases hp : Lib.parseIntB 64 s.data.toList with
  | ok v =>
    have e0 : pint s.data.toList = (v, true) := by simp [pint, hp]
    rw [e0]
    refine (Tryd.strconv_ParseInt_10_at64_ok s (by omega) v hp w).mono ?_
    rintro e w' ⟨rfl, hw⟩
    refine ⟨rfl, ?_⟩
    rcases hw with rfl | ⟨t, rfl⟩
    · exact Below.refl _ _
    · exact Lib.bytesWorld_below w 5 t
  | «syntax» => simp [pint, hp] at h
  | range => simp [pint, hp] at h
theorem pi_no (s : ByteArray) (w : World) (hs : s.size ≤ 140737488355328) (h : (pint s.data.toList).2 = false) (he : Errs w) :
    Calls Tryd.prog 33 #[.string s, .int .i64 10, .int .i64 64] w fun e w' => ∃ N, e = .returned (.tuple #[.int .i64 (pint s.data.toList).1, .iface 94 (.pointer (some ⟨N, 0, none⟩))]) ∧ Below w.heap.size w w' := by
  obtain ⟨⟨e1, c1, d1⟩, ⟨e2, c2, d2⟩⟩ := he
  cases hp : Lib.parseIntB 64 s.data.toList with
  | ok v => simp [pint, hp] at h
  | «syntax» =>
    have e0 : pint s.data.toList = (0, false) := by simp [pint, hp]
    rw [e0]
    refine (Tryd.strconv_ParseInt_10_at64_syntax s (by omega) hp e1 w c1 d1).mono ?_
    rintro e w' ⟨N, rfl, -, -, hb⟩
    exact ⟨N, rfl, hb⟩
  | range =>
    have e0 : pint s.data.toList = (Lib.intSat 64 s.data.toList, false) := by simp [pint, hp]
    rw [e0]
    refine (Tryd.strconv_ParseInt_10_at64_range s (by omega) hp e2 w c2 d2).mono ?_
    rintro e w' ⟨N, rfl, -, -, hb⟩
    exact ⟨N, rfl, hb⟩

/-- What a text is taken for, and whether it may be. -/
def gss (l : List UInt8) : Val × Bool :=
  if Lib.hasPrefix l [34] then (⟨3, 0, 0, outS (unqS (l.drop 1))⟩, outB (unqS (l.drop 1)))
  else if (cutL l).2.2 = false then (⟨1, (pint l).1, 0, ⟨#[]⟩⟩, (pint l).2)
  else if (pint (cutL l).1).2 = false then (⟨1, (pint (cutL l).1).1, 0, ⟨#[]⟩⟩, false)
  else (⟨2, (pint (cutL l).1).1, (pint (cutL l).2.1).1, ⟨#[]⟩⟩, (pint (cutL l).2.1).2)

theorem Errs.alloc {w : World} (h : Errs w) (hs : 6 ≤ w.heap.size) (o : Obj) : Errs (w.alloc o) := h.below ((Below.refl _ w).alloc (Nat.le_refl _) o) hs

set_option maxRecDepth 100000 in
set_option maxHeartbeats 4000000 in
theorem guess_str (s : ByteArray) (w : World) (hs : s.size ≤ 140737488355000) (hp : Lib.hasPrefix s.data.toList [34] = true) (he : Errs w) (h8 : 6 ≤ w.heap.size) :
    Calls Tryd.prog 26 #[.string s] w fun e w' => e = .returned (.tuple #[.agg #[.int .i64 3, .int .i64 0, .int .i64 0, .string (outS (unqS (s.data.toList.drop 1)))], .bool (outB (unqS (s.data.toList.drop 1)))]) ∧ Below w.heap.size w w' := by
  obtain ⟨T, eT⟩ : ∃ T : ByteArray, Hid (outS (unqS (s.data.toList.drop 1)) = T) := ⟨_, rfl⟩
  obtain ⟨C, eC⟩ : ∃ C : Bool, Hid (outB (unqS (s.data.toList.drop 1)) = C) := ⟨_, rfl⟩
  have h1 : 1 ≤ s.size := by
    have : s.data.toList ≠ [] := by intro e; rw [e] at hp; simp [Lib.hasPrefix] at hp
    have h2 := List.length_pos_iff.2 this
    simp at h2
    exact h2
  have HP : Hid (∀ W : World, Calls Tryd.prog 31 #[.string s, .string ⟨#[34]⟩] W fun e w' => e = .returned (.bool true) ∧ w' = W) := fun W => by
    have q := Tryd.strings_HasPrefix s ⟨#[34]⟩ W
    rw [show (⟨#[34]⟩ : ByteArray).data.toList = [34] from rfl, hp] at q
    exact q
  have UQ : Hid (∀ W : World, Errs W → 6 ≤ W.heap.size → Calls Tryd.prog 32 #[.string (s.extract 1 s.size)] W fun e w' => e = .returned (.tuple #[.string T, .bool C]) ∧ Below W.heap.size W w') := fun W g1 g2 => by
    have q := unquote_any (s.extract 1 s.size) W (by simp; omega) g1 g2
    rw [ext_from, eT.out, eC.out] at q
    exact q
  rw [eT.out, eC.out]
  clear eT eC hp
  have h1' : (1 : Int) ≤ s.size := by omega
  have HE : Hid (Errs w) := he
  clear he
  go_enter Tryd.func26, Tryd.ntmps26
  go_wp2_with fail
  refine (HP.out _).mono ?_
  rintro e w0 ⟨rfl, rfl⟩
  go_wp2_with fail
  refine (UQ.out _ (HE.out.alloc h8 _) (by simp; omega)).mono ?_
  rintro e w1 ⟨rfl, hb⟩
  have bRR : Hid (BlkV w1 w.heap.size 0 0 0 ⟨#[]⟩) := BlkV.below (by constructor <;> simp (maxDischargeDepth := 12) [go_sem]) hb (by simp)
  obtain ⟨hc, hf, hz, hB⟩ := bf (w := w) (by go_grown) hb
  clear hc hf hb
  obtain ⟨r0, r1, r2, r3, r4, r5, r6, r7⟩ := bRR.out
  go_wp2
  generalize hW9 : World.setCell _ _ _ = W9
  have b9 : BlkV W9 w.heap.size 3 0 0 T := by rw [← hW9]; exact bRR.out.four
  have hB9 : Below w.heap.size w W9 := by rw [← hW9]; exact (((hB.setCell (by simp) _).setCell (by simp) _).setCell (by simp) _).setCell (by simp) _
  clear hW9
  obtain ⟨x0, x1, x2, x3, -, -, -, -⟩ := b9
  refine bodyPost_ret (by simp [results, Tryd.results26, go_sem, x0, x1, x2, x3]; try rfl) rfl ?_
  exact ⟨rfl, hB9⟩

set_option maxRecDepth 100000 in
set_option maxHeartbeats 4000000 in
theorem guess_int (s u D : ByteArray) (n : Int) (ok br : Bool) (w : World) (hp : Lib.hasPrefix s.data.toList [34] = false)
    (CU : Hid (∀ W : World, Calls Tryd.prog 25 #[.string s, .string ⟨#[47]⟩] W fun e w' => e = .returned (.tuple #[.string u, .string D, .bool br]) ∧ ∃ k, w' = W.drewN k))
    (PI : Hid (∀ W : World, Errs W → Calls Tryd.prog 33 #[.string u, .int .i64 10, .int .i64 64] W fun e w' => (∃ N, e = .returned (.tuple #[.int .i64 n, if ok = true then .nilIface else .iface 94 (.pointer (some ⟨N, 0, none⟩))])) ∧ Below W.heap.size W w'))
    (hb : br = false ∨ ok = false) (he : Errs w) (h8 : 6 ≤ w.heap.size) :
    Calls Tryd.prog 26 #[.string s] w fun e w' => e = .returned (.tuple #[.agg #[.int .i64 1, .int .i64 n, .int .i64 0, .string ⟨#[]⟩], .bool ok]) ∧ Below w.heap.size w w' := by
  have HP : Hid (∀ W : World, Calls Tryd.prog 31 #[.string s, .string ⟨#[34]⟩] W fun e w' => e = .returned (.bool false) ∧ w' = W) := fun W => by
    have q := Tryd.strings_HasPrefix s ⟨#[34]⟩ W
    rw [show (⟨#[34]⟩ : ByteArray).data.toList = [34] from rfl, hp] at q
    exact q
  clear hp
  have HE : Hid (Errs w) := he
  clear he
  cases ok
  · skip
    go_enter Tryd.func26, Tryd.ntmps26
    go_wp2_with fail
    refine (HP.out _).mono ?_
    rintro e w0 ⟨rfl, rfl⟩
    go_wp2_with fail
    refine (CU.out _).mono ?_
    rintro e w0 ⟨rfl, k, rfl⟩
    go_wp2_with fail
    refine (PI.out _ (HE.out.below (bdrewN k ((Below.refl _ w).alloc (Nat.le_refl _) _)) h8)).mono ?_
    rintro e w1 ⟨⟨N, rfl⟩, hb1⟩
    simp only [Bool.false_eq_true, if_false]
    have bRR : Hid (BlkV w1 w.heap.size 0 0 0 ⟨#[]⟩) := BlkV.below (by constructor <;> simp (maxDischargeDepth := 12) [go_sem]) hb1 (by simp)
    have hB : Below w.heap.size w w1 := Below.trans (bdrewN k ((Below.refl _ w).alloc (Nat.le_refl _) _)) (hb1.mono (by simp))
    clear hb1
    obtain ⟨r0, r1, r2, r3, r4, r5, r6, r7⟩ := bRR.out
    go_wp2
    go_region
    all_goals
      go_wp2
      generalize hW9 : World.setCell _ _ _ = W9
      have b9 : BlkV W9 w.heap.size 1 n 0 ⟨#[]⟩ := by rw [← hW9]; exact bRR.out.four
      have hB9 : Below w.heap.size w W9 := by rw [← hW9]; exact (((hB.setCell (by simp) _).setCell (by simp) _).setCell (by simp) _).setCell (by simp) _
      clear hW9
      obtain ⟨x0, x1, x2, x3, -, -, -, -⟩ := b9
      refine bodyPost_ret (by simp [results, Tryd.results26, go_sem, x0, x1, x2, x3]; try rfl) rfl ?_
      exact ⟨rfl, hB9.drew⟩
  · obtain rfl : br = false := by rcases hb with h | h; exact h; cases h
    go_enter Tryd.func26, Tryd.ntmps26
    go_wp2_with fail
    refine (HP.out _).mono ?_
    rintro e w0 ⟨rfl, rfl⟩
    go_wp2_with fail
    refine (CU.out _).mono ?_
    rintro e w0 ⟨rfl, k, rfl⟩
    go_wp2_with fail
    refine (PI.out _ (HE.out.below (bdrewN k ((Below.refl _ w).alloc (Nat.le_refl _) _)) h8)).mono ?_
    rintro e w1 ⟨⟨N, rfl⟩, hb1⟩
    simp only [if_true]
    have bRR : Hid (BlkV w1 w.heap.size 0 0 0 ⟨#[]⟩) := BlkV.below (by constructor <;> simp (maxDischargeDepth := 12) [go_sem]) hb1 (by simp)
    have hB : Below w.heap.size w w1 := Below.trans (bdrewN k ((Below.refl _ w).alloc (Nat.le_refl _) _)) (hb1.mono (by simp))
    clear hb1
    obtain ⟨r0, r1, r2, r3, r4, r5, r6, r7⟩ := bRR.out
    go_wp2
    go_region
    all_goals
      go_wp2
      generalize hW9 : World.setCell _ _ _ = W9
      have b9 : BlkV W9 w.heap.size 1 n 0 ⟨#[]⟩ := by rw [← hW9]; exact bRR.out.four
      have hB9 : Below w.heap.size w W9 := by rw [← hW9]; exact (((hB.setCell (by simp) _).setCell (by simp) _).setCell (by simp) _).setCell (by simp) _
      clear hW9
      obtain ⟨x0, x1, x2, x3, -, -, -, -⟩ := b9
      refine bodyPost_ret (by simp [results, Tryd.results26, go_sem, x0, x1, x2, x3]; try rfl) rfl ?_
      exact ⟨rfl, hB9.drew⟩

set_option maxRecDepth 100000 in
set_option maxHeartbeats 4000000 in
theorem guess_rat (s u D : ByteArray) (n d : Int) (ok : Bool) (w : World) (hp : Lib.hasPrefix s.data.toList [34] = false)
    (CU : Hid (∀ W : World, Calls Tryd.prog 25 #[.string s, .string ⟨#[47]⟩] W fun e w' => e = .returned (.tuple #[.string u, .string D, .bool true]) ∧ ∃ k, w' = W.drewN k))
    (PI : Hid (∀ W : World, Calls Tryd.prog 33 #[.string u, .int .i64 10, .int .i64 64] W fun e w' => e = .returned (.tuple #[.int .i64 n, .nilIface]) ∧ Below W.heap.size W w'))
    (PD : Hid (∀ W : World, Errs W → Calls Tryd.prog 33 #[.string D, .int .i64 10, .int .i64 64] W fun e w' => (∃ N, e = .returned (.tuple #[.int .i64 d, if ok = true then .nilIface else .iface 94 (.pointer (some ⟨N, 0, none⟩))])) ∧ Below W.heap.size W w'))
    (he : Errs w) (h8 : 6 ≤ w.heap.size) :
    Calls Tryd.prog 26 #[.string s] w fun e w' => e = .returned (.tuple #[.agg #[.int .i64 2, .int .i64 n, .int .i64 d, .string ⟨#[]⟩], .bool ok]) ∧ Below w.heap.size w w' := by
  have HP : Hid (∀ W : World, Calls Tryd.prog 31 #[.string s, .string ⟨#[34]⟩] W fun e w' => e = .returned (.bool false) ∧ w' = W) := fun W => by
    have q := Tryd.strings_HasPrefix s ⟨#[34]⟩ W
    rw [show (⟨#[34]⟩ : ByteArray).data.toList = [34] from rfl, hp] at q
    exact q
  clear hp
  have HE : Hid (Errs w) := he
  clear he
  cases ok
  · go_enter Tryd.func26, Tryd.ntmps26
    go_wp2_with fail
    refine (HP.out _).mono ?_
    rintro e w0 ⟨rfl, rfl⟩
    go_wp2_with fail
    refine (CU.out _).mono ?_
    rintro e w0 ⟨rfl, k, rfl⟩
    go_wp2_with fail
    refine (PI.out _).mono ?_
    rintro e w2 ⟨rfl, hb2⟩
    have b2 : Hid (BlkV w2 w.heap.size 0 0 0 ⟨#[]⟩) := BlkV.below (by constructor <;> simp (maxDischargeDepth := 12) [go_sem]) hb2 (by simp)
    have B2 : Below w.heap.size w w2 := Below.trans (bdrewN k ((Below.refl _ w).alloc (Nat.le_refl _) _)) (hb2.mono (by simp))
    have y2 : w.heap.size < w2.heap.size := by have zz := hb2.size; simp at zz; omega
    clear hb2
    go_wp2_with fail
    refine (PD.out _ (HE.out.below B2 h8)).mono ?_
    rintro e w1 ⟨⟨N, rfl⟩, hb1⟩
    simp only [Bool.false_eq_true, if_false]
    have bRR : Hid (BlkV w1 w.heap.size 0 0 0 ⟨#[]⟩) := b2.out.below hb1 y2
    have hB : Below w.heap.size w w1 := B2.trans (hb1.mono B2.size)
    clear hb1 b2
    obtain ⟨r0, r1, r2, r3, r4, r5, r6, r7⟩ := bRR.out
    go_wp2
    go_region
    all_goals
      go_wp2
      generalize hW9 : World.setCell _ _ _ = W9
      have b9 : BlkV W9 w.heap.size 2 n d ⟨#[]⟩ := by rw [← hW9]; exact bRR.out.four
      have hB9 : Below w.heap.size w W9 := by rw [← hW9]; exact (((hB.setCell (by simp) _).setCell (by simp) _).setCell (by simp) _).setCell (by simp) _
      clear hW9
      obtain ⟨x0, x1, x2, x3, -, -, -, -⟩ := b9
      refine bodyPost_ret (by simp [results, Tryd.results26, go_sem, x0, x1, x2, x3]; try rfl) rfl ?_
      exact ⟨rfl, hB9.drew⟩
  · go_enter Tryd.func26, Tryd.ntmps26
    go_wp2_with fail
    refine (HP.out _).mono ?_
    rintro e w0 ⟨rfl, rfl⟩
    go_wp2_with fail
    refine (CU.out _).mono ?_
    rintro e w0 ⟨rfl, k, rfl⟩
    go_wp2_with fail
    refine (PI.out _).mono ?_
    rintro e w2 ⟨rfl, hb2⟩
    have b2 : Hid (BlkV w2 w.heap.size 0 0 0 ⟨#[]⟩) := BlkV.below (by constructor <;> simp (maxDischargeDepth := 12) [go_sem]) hb2 (by simp)
    have B2 : Below w.heap.size w w2 := Below.trans (bdrewN k ((Below.refl _ w).alloc (Nat.le_refl _) _)) (hb2.mono (by simp))
    have y2 : w.heap.size < w2.heap.size := by have zz := hb2.size; simp at zz; omega
    clear hb2
    go_wp2_with fail
    refine (PD.out _ (HE.out.below B2 h8)).mono ?_
    rintro e w1 ⟨⟨N, rfl⟩, hb1⟩
    simp only [if_true]
    have bRR : Hid (BlkV w1 w.heap.size 0 0 0 ⟨#[]⟩) := b2.out.below hb1 y2
    have hB : Below w.heap.size w w1 := B2.trans (hb1.mono B2.size)
    clear hb1 b2
    obtain ⟨r0, r1, r2, r3, r4, r5, r6, r7⟩ := bRR.out
    go_wp2
    go_region
    all_goals
      go_wp2
      generalize hW9 : World.setCell _ _ _ = W9
      have b9 : BlkV W9 w.heap.size 2 n d ⟨#[]⟩ := by rw [← hW9]; exact bRR.out.four
      have hB9 : Below w.heap.size w W9 := by rw [← hW9]; exact (((hB.setCell (by simp) _).setCell (by simp) _).setCell (by simp) _).setCell (by simp) _
      clear hW9
      obtain ⟨x0, x1, x2, x3, -, -, -, -⟩ := b9
      refine bodyPost_ret (by simp [results, Tryd.results26, go_sem, x0, x1, x2, x3]; try rfl) rfl ?_
      exact ⟨rfl, hB9.drew⟩

theorem guess_any (s : ByteArray) (w : World) (hs : s.size ≤ 140737488355000) (he : Errs w) (h8 : 6 ≤ w.heap.size) :
    Calls Tryd.prog 26 #[.string s] w fun e w' => e = .returned (.tuple #[.agg #[.int .i64 (gss s.data.toList).1.k, .int .i64 (gss s.data.toList).1.n, .int .i64 (gss s.data.toList).1.d, .string (gss s.data.toList).1.s], .bool (gss s.data.toList).2]) ∧ Below w.heap.size w w' := by
  cases hp : Lib.hasPrefix s.data.toList [34]
  · have pw : ∀ (u : ByteArray), u.size ≤ 140737488355328 → Hid (∀ W : World, Errs W → Calls Tryd.prog 33 #[.string u, .int .i64 10, .int .i64 64] W fun e w' => (∃ N, e = .returned (.tuple #[.int .i64 (pint u.data.toList).1, if (pint u.data.toList).2 = true then .nilIface else .iface 94 (.pointer (some ⟨N, 0, none⟩))])) ∧ Below W.heap.size W w') := fun u hu W hW => by
      cases hk : (pint u.data.toList).2
      · refine (pi_no u W hu hk hW).mono ?_
        rintro e w' ⟨N, rfl, hb⟩
        exact ⟨⟨N, by simp⟩, hb⟩
      · refine (pi_yes u W hu hk).mono ?_
        rintro e w' ⟨rfl, hb⟩
        exact ⟨⟨0, by simp⟩, hb⟩
    cases hc : (cutL s.data.toList).2.2
    · have e0 : gss s.data.toList = (⟨1, (pint s.data.toList).1, 0, ⟨#[]⟩⟩, (pint s.data.toList).2) := by simp [gss, hp, hc]
      rw [e0]
      exact guess_int s s ⟨#[]⟩ _ _ false w hp (fun W => cut_no s W hc) (pw s (by omega)) (Or.inl rfl) he h8
    · have hl := cutL_yes _ hc
      have hsz : s.data.toList.length = s.size := by simp
      have l1 : (cutL s.data.toList).1.length ≤ s.size := by have := congrArg List.length hl.1; simp only [List.length_append, List.length_cons] at this; omega
      have l2 : (cutL s.data.toList).2.1.length ≤ s.size := by have := congrArg List.length hl.1; simp only [List.length_append, List.length_cons] at this; omega
      have q1 := pw ⟨(cutL s.data.toList).1.toArray⟩ (by show (cutL s.data.toList).1.toArray.size ≤ _; simp; omega)
      have q2 := pw ⟨(cutL s.data.toList).2.1.toArray⟩ (by show (cutL s.data.toList).2.1.toArray.size ≤ _; simp; omega)
      cases hk : (pint (cutL s.data.toList).1).2
      · have e0 : gss s.data.toList = (⟨1, (pint (cutL s.data.toList).1).1, 0, ⟨#[]⟩⟩, false) := by simp [gss, hp, hc, hk]
        rw [e0]
        rw [show (⟨(cutL s.data.toList).1.toArray⟩ : ByteArray).data.toList = (cutL s.data.toList).1 from rfl, hk] at q1
        exact guess_int s _ _ _ false true w hp (fun W => cut_yes s W hc (by omega)) q1 (Or.inr rfl) he h8
      · have e0 : gss s.data.toList = (⟨2, (pint (cutL s.data.toList).1).1, (pint (cutL s.data.toList).2.1).1, ⟨#[]⟩⟩, (pint (cutL s.data.toList).2.1).2) := by simp [gss, hp, hc, hk]
        rw [e0]
        refine guess_rat s ⟨(cutL s.data.toList).1.toArray⟩ ⟨(cutL s.data.toList).2.1.toArray⟩ _ _ _ w hp (fun W => cut_yes s W hc (by omega)) (fun W => ?_) q2 he h8
        exact pi_yes ⟨(cutL s.data.toList).1.toArray⟩ W (by show (cutL s.data.toList).1.toArray.size ≤ _; simp; omega) hk
  · have e0 : gss s.data.toList = (⟨3, 0, 0, outS (unqS (s.data.toList.drop 1))⟩, outB (unqS (s.data.toList.drop 1))) := by simp [gss, hp]
    rw [e0]
    exact guess_str s w hs hp he h8

end Go.Proofs.YtmegombglkcccaaDoor

namespace Go.Proofs.YtmegombglkcccaaDoor
open Go.RowKit Go.Shelf
set_option linter.unusedVariables false

set_option maxRecDepth 100000 in
set_option maxHeartbeats 4000000 in
theorem parse_no1 (s S : ByteArray) (k n d : Int) (ok : Bool) (w : World) (h1 : -9223372036854775808 ≤ n) (h2 : n ≤ 9223372036854775807) (g1 : -9223372036854775808 ≤ d) (g2 : d ≤ 9223372036854775807) (hS : S.size ≤ 35184372088830)
    (GU : Hid (∀ W : World, Errs W → 6 ≤ W.heap.size → Calls Tryd.prog 26 #[.string s] W fun e w' => e = .returned (.tuple #[.agg #[.int .i64 k, .int .i64 n, .int .i64 d, .string S], .bool ok]) ∧ Below W.heap.size W w'))
    (ht : Pow w) (he : Errs w) (h8 : 6 ≤ w.heap.size) (ho : ok = false) :
    Calls Tryd.prog 23 #[.string s] w fun e w' => e = .returned (.tuple #[.agg #[.int .i64 0, .int .i64 0, .int .i64 0, .string ⟨#[]⟩], .int .i64 70]) ∧ Below w.heap.size w w' := by
  subst ho
  have HE : Hid (Errs w) := he
  clear he
  go_enter Tryd.func23, Tryd.ntmps23
  go_wp2_with fail
  refine (GU.out _ (HE.out.alloc h8 _) (by simp; omega)).mono ?_
  rintro e w1 ⟨rfl, hb1⟩
  have R1 : Hid (BlkV w1 w.heap.size 0 0 0 ⟨#[]⟩) := BlkV.below (by constructor <;> simp (maxDischargeDepth := 12) [go_sem]) hb1 (by simp)
  have B1 : Below w.heap.size w w1 := ((Below.refl _ w).alloc (Nat.le_refl _) _).trans (hb1.mono (by simp))
  have z1 : w.heap.size < w1.heap.size := by have := hb1.size; simp at this; omega
  clear hb1
  go_upto_region 2 with fail
  refine wp_world ?_
  intro W2 hW2
  have R2 : Hid (BlkV W2 w.heap.size 0 0 0 ⟨#[]⟩) := by rw [hW2]; exact R1.out.below ((Below.refl w1.heap.size w1).alloc (Nat.le_refl _) _) z1
  have B2 : Below w.heap.size w W2 := by rw [hW2]; exact B1.alloc B1.size _
  clear hW2 R1 B1 z1
  obtain ⟨r0, r1, r2, r3, r4, r5, r6, r7⟩ := R2.out
  go_wp2
  generalize hW9 : World.setCell _ _ _ = W9
  have b9 : BlkV W9 w.heap.size 0 0 0 ⟨#[]⟩ := by rw [← hW9]; exact R2.out.four
  have hB9 : Below w.heap.size w W9 := by rw [← hW9]; exact (((B2.setCell (by simp) _).setCell (by simp) _).setCell (by simp) _).setCell (by simp) _
  clear hW9
  obtain ⟨x0, x1, x2, x3, -, -, -, -⟩ := b9
  refine bodyPost_ret (by simp [results, Tryd.results23, go_sem, x0, x1, x2, x3]; try rfl) rfl ?_
  exact ⟨rfl, hB9⟩

set_option maxRecDepth 100000 in
set_option maxHeartbeats 4000000 in
theorem parse_no2 (s S : ByteArray) (k n d : Int) (ok : Bool) (w : World) (h1 : -9223372036854775808 ≤ n) (h2 : n ≤ 9223372036854775807) (g1 : -9223372036854775808 ≤ d) (g2 : d ≤ 9223372036854775807) (hS : S.size ≤ 35184372088830)
    (GU : Hid (∀ W : World, Errs W → 6 ≤ W.heap.size → Calls Tryd.prog 26 #[.string s] W fun e w' => e = .returned (.tuple #[.agg #[.int .i64 k, .int .i64 n, .int .i64 d, .string S], .bool ok]) ∧ Below W.heap.size W w'))
    (ht : Pow w) (he : Errs w) (h8 : 6 ≤ w.heap.size) (ho : ok = true) (hp : pureB k n d S = false) :
    Calls Tryd.prog 23 #[.string s] w fun e w' => e = .returned (.tuple #[.agg #[.int .i64 0, .int .i64 0, .int .i64 0, .string ⟨#[]⟩], .int .i64 70]) ∧ Below w.heap.size w w' := by
  subst ho
  have HE : Hid (Errs w) := he
  clear he
  go_enter Tryd.func23, Tryd.ntmps23
  go_wp2_with fail
  refine (GU.out _ (HE.out.alloc h8 _) (by simp; omega)).mono ?_
  rintro e w1 ⟨rfl, hb1⟩
  have R1 : Hid (BlkV w1 w.heap.size 0 0 0 ⟨#[]⟩) := BlkV.below (by constructor <;> simp (maxDischargeDepth := 12) [go_sem]) hb1 (by simp)
  have B1 : Below w.heap.size w w1 := ((Below.refl _ w).alloc (Nat.le_refl _) _).trans (hb1.mono (by simp))
  have z1 : w.heap.size < w1.heap.size := by have := hb1.size; simp at this; omega
  clear hb1
  go_wp2_with fail
  refine (pure_any k n d S _ h1 h2 g1 g2).mono ?_
  rintro e w2 ⟨rfl, hb2⟩
  rw [hp]
  have R2 : Hid (BlkV w2 w.heap.size 0 0 0 ⟨#[]⟩) := (R1.out.below ((Below.refl w1.heap.size w1).alloc (Nat.le_refl _) _) z1).below hb2 (by simp; omega)
  have V2 : Hid (BlkV w2 w1.heap.size k n d S) := BlkV.below (by constructor <;> simp (maxDischargeDepth := 12) [go_sem]) hb2 (by simp)
  have B2 : Below w.heap.size w w2 := (B1.alloc (by omega) _).trans (hb2.mono (by simp; omega))
  have z2 : w1.heap.size < w2.heap.size := by have := hb2.size; simp at this; omega
  clear R1 B1 hb2
  obtain ⟨r0, r1, r2, r3, r4, r5, r6, r7⟩ := R2.out
  go_wp2
  generalize hW9 : World.setCell _ _ _ = W9
  have b9 : BlkV W9 w.heap.size 0 0 0 ⟨#[]⟩ := by rw [← hW9]; exact R2.out.four
  have hB9 : Below w.heap.size w W9 := by rw [← hW9]; exact (((B2.setCell (by simp) _).setCell (by simp) _).setCell (by simp) _).setCell (by simp) _
  clear hW9
  obtain ⟨x0, x1, x2, x3, -, -, -, -⟩ := b9
  refine bodyPost_ret (by simp [results, Tryd.results23, go_sem, x0, x1, x2, x3]; try rfl) rfl ?_
  exact ⟨rfl, hB9⟩

set_option maxRecDepth 100000 in
set_option maxHeartbeats 4000000 in
theorem parse_no3 (s S : ByteArray) (k n d : Int) (ok : Bool) (w : World) (h1 : -9223372036854775808 ≤ n) (h2 : n ≤ 9223372036854775807) (g1 : -9223372036854775808 ≤ d) (g2 : d ≤ 9223372036854775807) (hS : S.size ≤ 35184372088830)
    (GU : Hid (∀ W : World, Errs W → 6 ≤ W.heap.size → Calls Tryd.prog 26 #[.string s] W fun e w' => e = .returned (.tuple #[.agg #[.int .i64 k, .int .i64 n, .int .i64 d, .string S], .bool ok]) ∧ Below W.heap.size W w'))
    (ht : Pow w) (he : Errs w) (h8 : 6 ≤ w.heap.size) (ho : ok = true) (hp : pureB k n d S = true) (hq : ((⟨(vtext k n d S).toArray⟩ : ByteArray).toList == s.toList) = false) :
    Calls Tryd.prog 23 #[.string s] w fun e w' => e = .returned (.tuple #[.agg #[.int .i64 0, .int .i64 0, .int .i64 0, .string ⟨#[]⟩], .int .i64 70]) ∧ Below w.heap.size w w' := by
  subst ho
  have HE : Hid (Errs w) := he
  clear he
  go_enter Tryd.func23, Tryd.ntmps23
  go_wp2_with fail
  refine (GU.out _ (HE.out.alloc h8 _) (by simp; omega)).mono ?_
  rintro e w1 ⟨rfl, hb1⟩
  have R1 : Hid (BlkV w1 w.heap.size 0 0 0 ⟨#[]⟩) := BlkV.below (by constructor <;> simp (maxDischargeDepth := 12) [go_sem]) hb1 (by simp)
  have B1 : Below w.heap.size w w1 := ((Below.refl _ w).alloc (Nat.le_refl _) _).trans (hb1.mono (by simp))
  have z1 : w.heap.size < w1.heap.size := by have := hb1.size; simp at this; omega
  clear hb1
  go_wp2_with fail
  refine (pure_any k n d S _ h1 h2 g1 g2).mono ?_
  rintro e w2 ⟨rfl, hb2⟩
  rw [hp]
  have R2 : Hid (BlkV w2 w.heap.size 0 0 0 ⟨#[]⟩) := (R1.out.below ((Below.refl w1.heap.size w1).alloc (Nat.le_refl _) _) z1).below hb2 (by simp; omega)
  have V2 : Hid (BlkV w2 w1.heap.size k n d S) := BlkV.below (by constructor <;> simp (maxDischargeDepth := 12) [go_sem]) hb2 (by simp)
  have B2 : Below w.heap.size w w2 := (B1.alloc (by omega) _).trans (hb2.mono (by simp; omega))
  have z2 : w1.heap.size < w2.heap.size := by have := hb2.size; simp at this; omega
  clear R1 B1 hb2
  obtain ⟨v0, v1, v2, v3, -, -, -, -⟩ := V2.out
  obtain ⟨T, eT⟩ : ∃ T : ByteArray, Hid ((⟨(vtext k n d S).toArray⟩ : ByteArray) = T) := ⟨_, rfl⟩
  have TX : Hid (∀ W : World, Pow W → Calls Tryd.prog 28 #[.agg #[.int .i64 k, .int .i64 n, .int .i64 d, .string S]] W fun e w' => e = .returned (.string T) ∧ Below W.heap.size W w') := fun W hW => by
    have q := text_any k n d S W h1 h2 g1 g2 hS hW
    rw [eT.out] at q
    exact q
  rw [eT.out] at hq
  clear eT
  go_wp2_with fail
  refine (TX.out _ (ht.below B2)).mono ?_
  rintro e w3 ⟨rfl, hb3⟩
  clear v0 v1 v2 v3
  have R3 : Hid (BlkV w3 w.heap.size 0 0 0 ⟨#[]⟩) := R2.out.below hb3 (by omega)
  have V3 : Hid (BlkV w3 w1.heap.size k n d S) := V2.out.below hb3 z2
  have B3 : Below w.heap.size w w3 := B2.trans (hb3.mono B2.size)
  have z3 : w1.heap.size < w3.heap.size := by have := hb3.size; omega
  clear R2 V2 B2 hb3
  obtain ⟨v0, v1, v2, v3, -, -, -, -⟩ := V3.out
  obtain ⟨r0, r1, r2, r3, r4, r5, r6, r7⟩ := R3.out
  go_wp2
  generalize hW9 : World.setCell _ _ _ = W9
  have b9 : BlkV W9 w.heap.size 0 0 0 ⟨#[]⟩ := by rw [← hW9]; exact R3.out.four
  have hB9 : Below w.heap.size w W9 := by rw [← hW9]; exact (((B3.setCell (by simp) _).setCell (by simp) _).setCell (by simp) _).setCell (by simp) _
  clear hW9
  obtain ⟨x0, x1, x2, x3, -, -, -, -⟩ := b9
  refine bodyPost_ret (by simp [results, Tryd.results23, go_sem, x0, x1, x2, x3]; try rfl) rfl ?_
  exact ⟨rfl, hB9⟩

set_option maxRecDepth 100000 in
set_option maxHeartbeats 4000000 in
theorem parse_long (s S : ByteArray) (k n d : Int) (ok : Bool) (w : World) (h1 : -9223372036854775808 ≤ n) (h2 : n ≤ 9223372036854775807) (g1 : -9223372036854775808 ≤ d) (g2 : d ≤ 9223372036854775807) (hS : S.size ≤ 35184372088830)
    (GU : Hid (∀ W : World, Errs W → 6 ≤ W.heap.size → Calls Tryd.prog 26 #[.string s] W fun e w' => e = .returned (.tuple #[.agg #[.int .i64 k, .int .i64 n, .int .i64 d, .string S], .bool ok]) ∧ Below W.heap.size W w'))
    (ht : Pow w) (he : Errs w) (h8 : 6 ≤ w.heap.size) (C : Int) (ho : ok = true) (hp : pureB k n d S = true) (hq : (⟨(vtext k n d S).toArray⟩ : ByteArray) = s) (hc : chk k n d S = C) (hC : (C != 0) = true) :
    Calls Tryd.prog 23 #[.string s] w fun e w' => e = .returned (.tuple #[.agg #[.int .i64 0, .int .i64 0, .int .i64 0, .string ⟨#[]⟩], .int .i64 C]) ∧ Below w.heap.size w w' := by
  subst ho
  have HE : Hid (Errs w) := he
  clear he
  go_enter Tryd.func23, Tryd.ntmps23
  go_wp2_with fail
  refine (GU.out _ (HE.out.alloc h8 _) (by simp; omega)).mono ?_
  rintro e w1 ⟨rfl, hb1⟩
  have R1 : Hid (BlkV w1 w.heap.size 0 0 0 ⟨#[]⟩) := BlkV.below (by constructor <;> simp (maxDischargeDepth := 12) [go_sem]) hb1 (by simp)
  have B1 : Below w.heap.size w w1 := ((Below.refl _ w).alloc (Nat.le_refl _) _).trans (hb1.mono (by simp))
  have z1 : w.heap.size < w1.heap.size := by have := hb1.size; simp at this; omega
  clear hb1
  go_wp2_with fail
  refine (pure_any k n d S _ h1 h2 g1 g2).mono ?_
  rintro e w2 ⟨rfl, hb2⟩
  rw [hp]
  have R2 : Hid (BlkV w2 w.heap.size 0 0 0 ⟨#[]⟩) := (R1.out.below ((Below.refl w1.heap.size w1).alloc (Nat.le_refl _) _) z1).below hb2 (by simp; omega)
  have V2 : Hid (BlkV w2 w1.heap.size k n d S) := BlkV.below (by constructor <;> simp (maxDischargeDepth := 12) [go_sem]) hb2 (by simp)
  have B2 : Below w.heap.size w w2 := (B1.alloc (by omega) _).trans (hb2.mono (by simp; omega))
  have z2 : w1.heap.size < w2.heap.size := by have := hb2.size; simp at this; omega
  clear R1 B1 hb2
  obtain ⟨v0, v1, v2, v3, -, -, -, -⟩ := V2.out
  obtain ⟨T, eT⟩ : ∃ T : ByteArray, Hid ((⟨(vtext k n d S).toArray⟩ : ByteArray) = T) := ⟨_, rfl⟩
  have TX : Hid (∀ W : World, Pow W → Calls Tryd.prog 28 #[.agg #[.int .i64 k, .int .i64 n, .int .i64 d, .string S]] W fun e w' => e = .returned (.string T) ∧ Below W.heap.size W w') := fun W hW => by
    have q := text_any k n d S W h1 h2 g1 g2 hS hW
    rw [eT.out] at q
    exact q
  rw [eT.out] at hq
  clear eT
  subst hq
  go_wp2_with fail
  refine (TX.out _ (ht.below B2)).mono ?_
  rintro e w3 ⟨rfl, hb3⟩
  clear v0 v1 v2 v3
  have R3 : Hid (BlkV w3 w.heap.size 0 0 0 ⟨#[]⟩) := R2.out.below hb3 (by omega)
  have V3 : Hid (BlkV w3 w1.heap.size k n d S) := V2.out.below hb3 z2
  have B3 : Below w.heap.size w w3 := B2.trans (hb3.mono B2.size)
  have z3 : w1.heap.size < w3.heap.size := by have := hb3.size; omega
  clear R2 V2 B2 hb3
  obtain ⟨v0, v1, v2, v3, -, -, -, -⟩ := V3.out
  obtain ⟨r0, r1, r2, r3, r4, r5, r6, r7⟩ := R3.out
  go_wp2_with fail
  refine (check_any k n d S _ h1 h2 g1 g2).mono ?_
  rintro e w4 ⟨rfl, hb4⟩
  rw [hc]
  clear v0 v1 v2 v3 r0 r1 r2 r3 r4 r5 r6 r7
  have R4 : Hid (BlkV w4 w.heap.size 0 0 0 ⟨#[]⟩) := R3.out.below hb4 (by omega)
  have V4 : Hid (BlkV w4 w1.heap.size k n d S) := V3.out.below hb4 z3
  have B4 : Below w.heap.size w w4 := B3.trans (hb4.mono B3.size)
  clear R3 V3 B3 hb4
  obtain ⟨v0, v1, v2, v3, -, -, -, -⟩ := V4.out
  obtain ⟨r0, r1, r2, r3, r4, r5, r6, r7⟩ := R4.out
  go_wp2
  generalize hW9 : World.setCell _ _ _ = W9
  have b9 : BlkV W9 w.heap.size 0 0 0 ⟨#[]⟩ := by rw [← hW9]; exact R4.out.four
  have hB9 : Below w.heap.size w W9 := by rw [← hW9]; exact (((B4.setCell (by simp) _).setCell (by simp) _).setCell (by simp) _).setCell (by simp) _
  clear hW9
  obtain ⟨x0, x1, x2, x3, -, -, -, -⟩ := b9
  refine bodyPost_ret (by simp [results, Tryd.results23, go_sem, x0, x1, x2, x3]; try rfl) rfl ?_
  exact ⟨rfl, hB9⟩

set_option maxRecDepth 100000 in
set_option maxHeartbeats 4000000 in
theorem parse_yes (s S : ByteArray) (k n d : Int) (ok : Bool) (w : World) (h1 : -9223372036854775808 ≤ n) (h2 : n ≤ 9223372036854775807) (g1 : -9223372036854775808 ≤ d) (g2 : d ≤ 9223372036854775807) (hS : S.size ≤ 35184372088830)
    (GU : Hid (∀ W : World, Errs W → 6 ≤ W.heap.size → Calls Tryd.prog 26 #[.string s] W fun e w' => e = .returned (.tuple #[.agg #[.int .i64 k, .int .i64 n, .int .i64 d, .string S], .bool ok]) ∧ Below W.heap.size W w'))
    (ht : Pow w) (he : Errs w) (h8 : 6 ≤ w.heap.size) (ho : ok = true) (hp : pureB k n d S = true) (hq : (⟨(vtext k n d S).toArray⟩ : ByteArray) = s) (hc : chk k n d S = 0) :
    Calls Tryd.prog 23 #[.string s] w fun e w' => e = .returned (.tuple #[.agg #[.int .i64 k, .int .i64 n, .int .i64 d, .string S], .int .i64 0]) ∧ Below w.heap.size w w' := by
  subst ho
  have HE : Hid (Errs w) := he
  clear he
  go_enter Tryd.func23, Tryd.ntmps23
  go_wp2_with fail
  refine (GU.out _ (HE.out.alloc h8 _) (by simp; omega)).mono ?_
  rintro e w1 ⟨rfl, hb1⟩
  have R1 : Hid (BlkV w1 w.heap.size 0 0 0 ⟨#[]⟩) := BlkV.below (by constructor <;> simp (maxDischargeDepth := 12) [go_sem]) hb1 (by simp)
  have B1 : Below w.heap.size w w1 := ((Below.refl _ w).alloc (Nat.le_refl _) _).trans (hb1.mono (by simp))
  have z1 : w.heap.size < w1.heap.size := by have := hb1.size; simp at this; omega
  clear hb1
  go_wp2_with fail
  refine (pure_any k n d S _ h1 h2 g1 g2).mono ?_
  rintro e w2 ⟨rfl, hb2⟩
  rw [hp]
  have R2 : Hid (BlkV w2 w.heap.size 0 0 0 ⟨#[]⟩) := (R1.out.below ((Below.refl w1.heap.size w1).alloc (Nat.le_refl _) _) z1).below hb2 (by simp; omega)
  have V2 : Hid (BlkV w2 w1.heap.size k n d S) := BlkV.below (by constructor <;> simp (maxDischargeDepth := 12) [go_sem]) hb2 (by simp)
  have B2 : Below w.heap.size w w2 := (B1.alloc (by omega) _).trans (hb2.mono (by simp; omega))
  have z2 : w1.heap.size < w2.heap.size := by have := hb2.size; simp at this; omega
  clear R1 B1 hb2
  obtain ⟨v0, v1, v2, v3, -, -, -, -⟩ := V2.out
  obtain ⟨T, eT⟩ : ∃ T : ByteArray, Hid ((⟨(vtext k n d S).toArray⟩ : ByteArray) = T) := ⟨_, rfl⟩
  have TX : Hid (∀ W : World, Pow W → Calls Tryd.prog 28 #[.agg #[.int .i64 k, .int .i64 n, .int .i64 d, .string S]] W fun e w' => e = .returned (.string T) ∧ Below W.heap.size W w') := fun W hW => by
    have q := text_any k n d S W h1 h2 g1 g2 hS hW
    rw [eT.out] at q
    exact q
  rw [eT.out] at hq
  clear eT
  subst hq
  go_wp2_with fail
  refine (TX.out _ (ht.below B2)).mono ?_
  rintro e w3 ⟨rfl, hb3⟩
  clear v0 v1 v2 v3
  have R3 : Hid (BlkV w3 w.heap.size 0 0 0 ⟨#[]⟩) := R2.out.below hb3 (by omega)
  have V3 : Hid (BlkV w3 w1.heap.size k n d S) := V2.out.below hb3 z2
  have B3 : Below w.heap.size w w3 := B2.trans (hb3.mono B2.size)
  have z3 : w1.heap.size < w3.heap.size := by have := hb3.size; omega
  clear R2 V2 B2 hb3
  obtain ⟨v0, v1, v2, v3, -, -, -, -⟩ := V3.out
  obtain ⟨r0, r1, r2, r3, r4, r5, r6, r7⟩ := R3.out
  go_wp2_with fail
  refine (check_any k n d S _ h1 h2 g1 g2).mono ?_
  rintro e w4 ⟨rfl, hb4⟩
  rw [hc]
  clear v0 v1 v2 v3 r0 r1 r2 r3 r4 r5 r6 r7
  have R4 : Hid (BlkV w4 w.heap.size 0 0 0 ⟨#[]⟩) := R3.out.below hb4 (by omega)
  have V4 : Hid (BlkV w4 w1.heap.size k n d S) := V3.out.below hb4 z3
  have B4 : Below w.heap.size w w4 := B3.trans (hb4.mono B3.size)
  clear R3 V3 B3 hb4
  obtain ⟨v0, v1, v2, v3, -, -, -, -⟩ := V4.out
  obtain ⟨r0, r1, r2, r3, r4, r5, r6, r7⟩ := R4.out
  go_wp2
  generalize hW9 : World.setCell _ _ _ = W9
  have b9 : BlkV W9 w.heap.size k n d S := by rw [← hW9]; exact R4.out.four
  have hB9 : Below w.heap.size w W9 := by rw [← hW9]; exact (((B4.setCell (by simp) _).setCell (by simp) _).setCell (by simp) _).setCell (by simp) _
  clear hW9
  obtain ⟨x0, x1, x2, x3, -, -, -, -⟩ := b9
  refine bodyPost_ret (by simp [results, Tryd.results23, go_sem, x0, x1, x2, x3]; try rfl) rfl ?_
  exact ⟨rfl, hB9⟩

/-- What Parse tells of a text. -/
def prs (l : List UInt8) : Val × Int :=
  if (gss l).2 = true ∧ pureB (gss l).1.k (gss l).1.n (gss l).1.d (gss l).1.s = true ∧ vtext (gss l).1.k (gss l).1.n (gss l).1.d (gss l).1.s = l then
    (if chk (gss l).1.k (gss l).1.n (gss l).1.d (gss l).1.s = 0 then ((gss l).1, 0) else (⟨0, 0, 0, ⟨#[]⟩⟩, chk (gss l).1.k (gss l).1.n (gss l).1.d (gss l).1.s))
  else (⟨0, 0, 0, ⟨#[]⟩⟩, 70)

theorem gss_fits (l : List UInt8) : (gss l).1.Fits := by
  unfold gss
  split
  · exact ⟨by simp, by simp, by simp, by simp⟩
  · split
    · exact ⟨(pint_fits _).1, (pint_fits _).2, by simp, by simp⟩
    · split
      · exact ⟨(pint_fits _).1, (pint_fits _).2, by simp, by simp⟩
      · exact ⟨(pint_fits _).1, (pint_fits _).2, (pint_fits _).1, (pint_fits _).2⟩
theorem gss_size (l : List UInt8) : (gss l).1.s.size ≤ l.length := by
  unfold gss
  split
  · show (outS (unqS (l.drop 1))).size ≤ l.length
    cases hu : unqS (l.drop 1) with
    | none => simp [outS, ByteArray.size]
    | some x =>
      unfold unqS at hu
      split at hu
      · have h1 := unq_len _ _ x (Nat.le_refl _) hu
        have h2 := trim_len (l.drop 1)
        have h3 : (outS (some x)).size = x.length := by simp [outS, ByteArray.size]
        have h4 : (l.drop 1).length ≤ l.length := by simp
        omega
      · cases hu
  · split
    · exact Nat.zero_le _
    · split <;> exact Nat.zero_le _

theorem parse_any (s : ByteArray) (w : World) (hs : s.size ≤ 35184372088830) (ht : Pow w) (he : Errs w) (h8 : 6 ≤ w.heap.size) :
    Calls Tryd.prog 23 #[.string s] w fun e w' => e = .returned (.tuple #[.agg #[.int .i64 (prs s.data.toList).1.k, .int .i64 (prs s.data.toList).1.n, .int .i64 (prs s.data.toList).1.d, .string (prs s.data.toList).1.s], .int .i64 (prs s.data.toList).2]) ∧ Below w.heap.size w w' := by
  have hf := gss_fits s.data.toList
  have hz := gss_size s.data.toList
  have hl : s.data.toList.length = s.size := by simp
  have GU := fun (W : World) (g1 : Errs W) (g2 : 6 ≤ W.heap.size) => guess_any s W (by omega) g1 g2
  unfold prs
  obtain ⟨g, hg⟩ : ∃ g, gss s.data.toList = g := ⟨_, rfl⟩
  rw [hg] at hf hz GU ⊢
  obtain ⟨⟨k, n, d, S⟩, ok⟩ := g
  dsimp only at hf hz GU ⊢
  cases ho : ok
  · rw [if_neg (by simp)]
    exact parse_no1 s S k n d ok w hf.n1 hf.n2 hf.d1 hf.d2 (by omega) GU ht he h8 ho
  · cases hp : pureB k n d S
    · rw [if_neg (by simp)]
      exact parse_no2 s S k n d ok w hf.n1 hf.n2 hf.d1 hf.d2 (by omega) GU ht he h8 ho hp
    · by_cases hq : vtext k n d S = s.data.toList
      · have hq' : (⟨(vtext k n d S).toArray⟩ : ByteArray) = s := (ba_eq hq.symm).symm
        rw [if_pos ⟨rfl, rfl, hq⟩]
        by_cases hc : chk k n d S = 0
        · rw [if_pos hc]
          exact parse_yes s S k n d ok w hf.n1 hf.n2 hf.d1 hf.d2 (by omega) GU ht he h8 ho hp hq' hc
        · rw [if_neg hc]
          exact parse_long s S k n d ok w hf.n1 hf.n2 hf.d1 hf.d2 (by omega) GU ht he h8 _ ho hp hq' rfl (by simpa using hc)
      · rw [if_neg (fun h => hq h.2.2)]
        exact parse_no3 s S k n d ok w hf.n1 hf.n2 hf.d1 hf.d2 (by omega) GU ht he h8 ho hp (by simp only [toList_data]; simpa using hq)

end Go.Proofs.YtmegombglkcccaaDoor

namespace Go.Proofs.YtmegombglkcccaaDoor
open Go.RowKit Go.Shelf
set_option linter.unusedVariables false

/-- A text cut at its first comma. -/
def cutC : List UInt8 → List UInt8 × List UInt8 × Bool
  | [] => ([], [], false)
  | c :: r => if c.toNat = 44 then ([], r, true) else (c :: (cutC r).1, (cutC r).2.1, (cutC r).2.2)
theorem cutC_none : ∀ (l : List UInt8), (∀ c ∈ l, c.toNat ≠ 44) → cutC l = (l, [], false)
  | [], _ => rfl
  | c :: r, h => by
    have ih := cutC_none r (fun x hx => h x (by simp [hx]))
    simp [cutC, h c (by simp), ih]
theorem cutC_some : ∀ (l r : List UInt8), (∀ c ∈ l, c.toNat ≠ 44) → cutC (l ++ 44 :: r) = (l, r, true)
  | [], r, _ => by simp [cutC]
  | c :: l, r, h => by
    have ih := cutC_some l r (fun x hx => h x (by simp [hx]))
    simp [cutC, h c (by simp), ih]
theorem cutC_no : ∀ (l : List UInt8), (cutC l).2.2 = false → cutC l = (l, [], false) ∧ Lib.indexByte l 44 = -1
  | [], _ => ⟨rfl, rfl⟩
  | c :: r, h => by
    unfold cutC at h ⊢
    by_cases hc : c.toNat = 44
    · rw [if_pos hc] at h; cases h
    · rw [if_neg hc] at h ⊢
      obtain ⟨h1, h2⟩ := cutC_no r h
      have h3 : (c == 44) = false := by simp; intro e; exact hc (by rw [e]; rfl)
      refine ⟨by rw [h1], ?_⟩
      unfold Lib.indexByte
      rw [h3, h2]
      rfl
theorem cutC_yes : ∀ (l : List UInt8), (cutC l).2.2 = true → l = (cutC l).1 ++ 44 :: (cutC l).2.1 ∧ Lib.indexByte l 44 = ((cutC l).1.length : Int)
  | [], h => by cases h
  | c :: r, h => by
    unfold cutC at h ⊢
    by_cases hc : c.toNat = 44
    · rw [if_pos hc]
      have e : c = 44 := UInt8.toNat_inj.1 hc
      subst e
      exact ⟨rfl, rfl⟩
    · rw [if_neg hc] at h ⊢
      obtain ⟨h1, h2⟩ := cutC_yes r h
      have h3 : (c == 44) = false := by simp; intro e; exact hc (by rw [e]; rfl)
      refine ⟨by simp only [List.cons_append]; rw [← h1], ?_⟩
      unfold Lib.indexByte
      rw [h3, h2]
      have h4 : (((cutC r).1.length : Int) == -1) = false := by simp
      simp [h4]
set_option maxRecDepth 100000 in
set_option maxHeartbeats 2000000 in
theorem comma_no (s : ByteArray) (w : World) (h : (cutC s.data.toList).2.2 = false) :
    Calls Tryd.prog 25 #[.string s, .string ⟨#[44]⟩] w fun e w' => e = .returned (.tuple #[.string s, .string ⟨#[]⟩, .bool false]) ∧ ∃ k, w' = w.drewN k := by
  have H : Hid (∀ W : World, Calls Tryd.prog 30 #[.string s, .string ⟨#[44]⟩] W fun e w' => e = .returned (.tuple #[.string s, .string ⟨#[]⟩, .bool false]) ∧ ∃ k, w' = W.drewN k) := fun W => by
    have I : Hid (∀ W : World, Calls Tryd.prog 37 #[.string s, .string ⟨#[44]⟩] W fun e w' => e = .returned (.int .i64 (-1)) ∧ w' = W) := fun W => by
      have q := Tryd.stringslite_Index_one s 44 W
      rw [(cutC_no _ h).2] at q
      exact q
    clear h
    go_enter Tryd.func30, Tryd.ntmps30
    go_wp2_with fail
    refine (I.out _).mono ?_
    rintro e w1 ⟨rfl, rfl⟩
    go_wp2
    refine bodyPost_ret (by simp [results, Tryd.results30, go_sem]; try rfl) rfl ?_
    exact ⟨rfl, 0, rfl⟩
  clear h
  go_enter Tryd.func25, Tryd.ntmps25
  go_wp2_with fail
  refine (H.out _).mono ?_
  rintro e w1 ⟨rfl, k, rfl⟩
  go_wp2
  refine bodyPost_ret (by simp [results, Tryd.results25, go_sem]; try rfl) rfl ?_
  exact ⟨rfl, k, rfl⟩

set_option maxRecDepth 100000 in
set_option maxHeartbeats 2000000 in
theorem comma_yes (s : ByteArray) (w : World) (h : (cutC s.data.toList).2.2 = true) (hs : s.size ≤ 140737488355328) :
    Calls Tryd.prog 25 #[.string s, .string ⟨#[44]⟩] w fun e w' => e = .returned (.tuple #[.string ⟨(cutC s.data.toList).1.toArray⟩, .string ⟨(cutC s.data.toList).2.1.toArray⟩, .bool true]) ∧ ∃ k, w' = w.drewN k := by
  obtain ⟨h1, h2⟩ := cutC_yes _ h
  obtain ⟨A, eA⟩ : ∃ A : ByteArray, Hid ((⟨(cutC s.data.toList).1.toArray⟩ : ByteArray) = A) := ⟨_, rfl⟩
  obtain ⟨B, eB⟩ : ∃ B : ByteArray, Hid ((⟨(cutC s.data.toList).2.1.toArray⟩ : ByteArray) = B) := ⟨_, rfl⟩
  obtain ⟨n, en⟩ : ∃ n : Nat, Hid ((cutC s.data.toList).1.length = n) := ⟨_, rfl⟩
  have hl : s.data.toList.length = n + 1 + (cutC s.data.toList).2.1.length := by
    have := congrArg List.length h1
    rw [List.length_append, List.length_cons, en.out] at this
    omega
  have hsz : s.data.toList.length = s.size := by simp
  have hn : n + 1 ≤ s.size := by omega
  have x1 : s.extract 0 n = A := by
    rw [← eA.out]
    refine ba_eq ?_
    rw [ext_take s n (by omega)]
    generalize cutC s.data.toList = c at h1 en
    rw [h1, ← en.out]
    simp
  have x2 : s.extract (n + 1) s.size = B := by
    rw [← eB.out]
    refine ba_eq ?_
    rw [ext_drop s (n + 1) hn]
    generalize cutC s.data.toList = c at h1 en
    rw [h1, ← en.out, List.drop_append]
    simp
  rw [eA.out, eB.out]
  have H : Hid (∀ W : World, Calls Tryd.prog 30 #[.string s, .string ⟨#[44]⟩] W fun e w' => e = .returned (.tuple #[.string A, .string B, .bool true]) ∧ ∃ k, w' = W.drewN k) := fun W => by
    have I : Hid (∀ W : World, Calls Tryd.prog 37 #[.string s, .string ⟨#[44]⟩] W fun e w' => e = .returned (.int .i64 n) ∧ w' = W) := fun W => by
      have q := Tryd.stringslite_Index_one s 44 W
      rw [h2, en.out] at q
      exact q
    clear h h1 h2 eA eB en hl hsz
    have z1 : (⟨#[44]⟩ : ByteArray).size = 1 := rfl
    have hn0 : (n : Int) ≤ s.size := by omega
    have hn1 : (n : Int) + 1 ≤ s.size := by omega
    go_enter Tryd.func30, Tryd.ntmps30
    go_wp2_with fail
    refine (I.out _).mono ?_
    rintro e w1 ⟨rfl, rfl⟩
    go_wp2
    go_quiet (fail)
    go_wp2
    refine bodyPost_ret (by simp [results, Tryd.results30, go_sem]; try rfl) rfl ?_
    exact ⟨rfl, nq, rfl⟩
  clear h h1 h2 eA eB en x1 x2 hl hsz
  go_enter Tryd.func25, Tryd.ntmps25
  go_wp2_with fail
  refine (H.out _).mono ?_
  rintro e w1 ⟨rfl, k, rfl⟩
  go_wp2
  refine bodyPost_ret (by simp [results, Tryd.results25, go_sem]; try rfl) rfl ?_
  exact ⟨rfl, k, rfl⟩

theorem comma_any (s : ByteArray) (w : World) (hs : s.size ≤ 140737488355328) :
    Calls Tryd.prog 25 #[.string s, .string ⟨#[44]⟩] w fun e w' => e = .returned (.tuple #[.string ⟨(cutC s.data.toList).1.toArray⟩, .string ⟨(cutC s.data.toList).2.1.toArray⟩, .bool (cutC s.data.toList).2.2]) ∧ ∃ k, w' = w.drewN k := by
  cases h : (cutC s.data.toList).2.2
  · have q := comma_no s w h
    rw [(cutC_no _ h).1]
    exact q
  · exact comma_yes s w h hs
end Go.Proofs.YtmegombglkcccaaDoor

namespace Go.Proofs.YtmegombglkcccaaDoor
namespace LX
def digN (n : Nat) : Bool := decide (48 ≤ n) && decide (n ≤ 57)
def lowN (n : Nat) : Bool := decide (97 ≤ n) && decide (n ≤ 122)
def inwN (n : Nat) : Bool := lowN n || digN n || n == 95
def hd : List UInt8 → Nat
  | [] => 0
  | c :: _ => c.toNat
def run (p : Nat → Bool) : List UInt8 → Nat
  | [] => 0
  | c :: t => if p c.toNat then run p t + 1 else 0
def numLen (l : List UInt8) : Nat :=
  if hd (l.drop (run digN l)) = 47 ∧ digN (hd (l.drop (run digN l + 1))) = true then run digN l + 1 + run digN (l.drop (run digN l + 1)) else run digN l
def brk : List UInt8 → Option Nat
  | [] => none
  | c :: t => if c.toNat = 93 then some 1 else (brk t).map (· + 1)
def qend : Bool → List UInt8 → Option Nat
  | _, [] => none
  | true, _ :: t => (qend false t).map (· + 1)
  | false, c :: t => if c.toNat = 34 then some 1 else (qend (c.toNat == 92) t).map (· + 1)
def beh : List UInt8 → Nat × Nat
  | [] => (0, 0)
  | c :: t =>
    if c.toNat = 40 then (1, 1) else if c.toNat = 41 then (2, 1) else if lowN c.toNat then (3, 1 + run inwN t)
    else if digN c.toNat || (c.toNat == 45 && digN (hd t)) then (6, 1 + numLen t)
    else if c.toNat = 60 ∧ hd t = 61 then (4, 2)
    else if c.toNat = 61 ∨ c.toNat = 43 ∨ c.toNat = 42 ∨ c.toNat = 60 ∨ c.toNat = 45 then (4, 1)
    else if c.toNat = 91 then ((brk t).elim (0, 0) fun k => (5, 1 + k))
    else if c.toNat = 34 then ((qend false t).elim (0, 0) fun k => (6, 1 + k))
    else if c.toNat = 64 then (7, 1 + run digN t)
    else (0, 0)

theorem beh_cons (c : UInt8) (t : List UInt8) : beh (c :: t) =
    if c.toNat = 40 then (1, 1) else if c.toNat = 41 then (2, 1) else if lowN c.toNat then (3, 1 + run inwN t)
    else if digN c.toNat || (c.toNat == 45 && digN (hd t)) then (6, 1 + numLen t)
    else if c.toNat = 60 ∧ hd t = 61 then (4, 2)
    else if c.toNat = 61 ∨ c.toNat = 43 ∨ c.toNat = 42 ∨ c.toNat = 60 ∨ c.toNat = 45 then (4, 1)
    else if c.toNat = 91 then ((brk t).elim (0, 0) fun k => (5, 1 + k))
    else if c.toNat = 34 then ((qend false t).elim (0, 0) fun k => (6, 1 + k))
    else if c.toNat = 64 then (7, 1 + run digN t)
    else (0, 0) := rfl

theorem run_le (p : Nat → Bool) (l : List UInt8) : run p l ≤ l.length := by
  induction l with
  | nil => simp [run]
  | cons c t ih => simp only [run]; split <;> simp; exact ih
theorem brk_le (l : List UInt8) (k : Nat) (h : brk l = some k) : 1 ≤ k ∧ k ≤ l.length := by
  induction l generalizing k with
  | nil => simp [brk] at h
  | cons c t ih =>
    simp only [brk] at h
    split at h
    · cases h; simp
    · cases hb : brk t with
      | none => simp [hb] at h
      | some j => simp [hb] at h; have := ih j hb; simp; omega
theorem qend_le (b : Bool) (l : List UInt8) (k : Nat) (h : qend b l = some k) : 1 ≤ k ∧ k ≤ l.length := by
  induction l generalizing k b with
  | nil => cases b <;> simp [qend] at h
  | cons c t ih =>
    cases b with
    | true =>
      simp only [qend] at h
      cases hb : qend false t with
      | none => simp [hb] at h
      | some j => simp [hb] at h; have := ih false j hb; simp; omega
    | false =>
      simp only [qend] at h
      split at h
      · cases h; simp
      · cases hb : qend (c.toNat == 92) t with
        | none => simp [hb] at h
        | some j => simp [hb] at h; have := ih _ j hb; simp; omega
theorem numLen_le (l : List UInt8) : numLen l ≤ l.length := by
  unfold numLen
  have h1 := run_le digN l
  split
  · rename_i h
    have h2 := run_le digN (l.drop (run digN l + 1))
    have h3 : run digN l + 1 < l.length := by
      apply Classical.byContradiction
      intro h3
      have : l.drop (run digN l + 1) = [] := List.drop_eq_nil_of_le (by omega)
      rw [this] at h
      simp [hd, digN] at h
    simp at h2
    omega
  · exact h1
theorem beh_le (l : List UInt8) (h : (beh l).1 ≠ 0) : 1 ≤ (beh l).2 ∧ (beh l).2 ≤ l.length := by
  cases l with
  | nil => simp [beh] at h
  | cons c t =>
    have h1 := run_le inwN t
    have h2 := run_le digN t
    have h3 := numLen_le t
    revert h
    rw [beh_cons]
    split
    · intro _; simp
    split
    · intro _; simp
    split
    · intro _; simp; omega
    split
    · intro _; simp; omega
    split
    · rename_i h5; intro _
      cases t with
      | nil => simp [hd] at h5
      | cons => simp
    split
    · intro _; simp
    split
    · cases hb : brk t with
      | none => simp
      | some k => intro _; have := brk_le t k hb; simp; omega
    split
    · cases hb : qend false t with
      | none => simp
      | some k => intro _; have := qend_le false t k hb; simp; omega
    split
    · intro _; simp; omega
    · simp

/-- A text that goes on as another does, up to n bytes, and then stops or has a byte that is a blank. -/
inductive Stops : List UInt8 → Prop
  | nil : Stops []
  | cons {c : UInt8} {t : List UInt8} (h : c.toNat = 32 ∨ c.toNat = 10) : Stops (c :: t)

theorem Stops.hd {r : List UInt8} (h : Stops r) : hd r = 0 ∨ hd r = 32 ∨ hd r = 10 := by
  cases h with
  | nil => simp [LX.hd]
  | cons h => simp [LX.hd]; omega
theorem run_stop (p : Nat → Bool) {r : List UInt8} (hr : Stops r) (h1 : p 32 = false) (h2 : p 10 = false) (l : List UInt8) : run p (l.take (run p l) ++ r) = run p l := by
  induction l with
  | nil =>
    cases hr with
    | nil => simp [run]
    | cons h => rcases h with h | h <;> simp [run, h, h1, h2]
  | cons c t ih =>
    simp only [run]
    split
    · rename_i hc; simp [run, hc, ih]
    · rename_i hc
      cases hr with
      | nil => simp [run]
      | cons h => rcases h with h | h <;> simp [run, h, h1, h2]
theorem run_take (p : Nat → Bool) (l : List UInt8) (m : Nat) (h : run p l ≤ m) : run p (l.take m) = run p l := by
  induction l generalizing m with
  | nil => simp [run]
  | cons c t ih =>
    cases m with
    | zero => simp only [run] at h ⊢; split <;> simp_all [run]
    | succ m =>
      simp only [run, List.take_succ_cons] at h ⊢
      split
      · rename_i hc; simp [hc] at h; rw [ih m h]
      · rfl
theorem brk_app (l r : List UInt8) (k : Nat) (h : brk l = some k) : brk (l.take k ++ r) = some k := by
  induction l generalizing k with
  | nil => simp [brk] at h
  | cons c t ih =>
    simp only [brk] at h
    split at h
    · rename_i hc; cases h; simp [brk, hc]
    · rename_i hc
      cases hb : brk t with
      | none => simp [hb] at h
      | some j => simp [hb] at h; subst h; simp [brk, hc, ih j hb]
theorem qend_app (b : Bool) (l r : List UInt8) (k : Nat) (h : qend b l = some k) : qend b (l.take k ++ r) = some k := by
  induction l generalizing k b with
  | nil => cases b <;> simp [qend] at h
  | cons c t ih =>
    cases b with
    | true =>
      simp only [qend] at h
      cases hb : qend false t with
      | none => simp [hb] at h
      | some j => simp [hb] at h; subst h; simp [qend, ih _ j hb]
    | false =>
      simp only [qend] at h
      split at h
      · rename_i hc; cases h; simp [qend, hc]
      · rename_i hc
        cases hb : qend (c.toNat == 92) t with
        | none => simp [hb] at h
        | some j => simp [hb] at h; subst h; simp only [List.take_succ_cons, List.cons_append, qend, if_neg hc, ih _ j hb]; rfl
theorem take_split (l : List UInt8) (k m : Nat) (h : k ≤ m) : l.take m = l.take k ++ (l.drop k).take (m - k) := by
  rw [← List.take_append_drop k (l.take m), List.take_take, List.drop_take, Nat.min_eq_left h]
theorem hd_take (l : List UInt8) (m : Nat) (h : 0 < m) : hd (l.take m) = hd l := by
  cases l <;> cases m <;> simp_all [hd]

theorem numLen_take (l : List UInt8) (m : Nat) (h : numLen l ≤ m) : numLen (l.take m) = numLen l := by
  have hr : run digN l ≤ m := by
    unfold numLen at h
    split at h <;> omega
  unfold numLen at h ⊢
  rw [run_take digN l m hr, List.drop_take, List.drop_take]
  split at h
  · rename_i hc
    have h1 : run digN l + 1 + 1 ≤ m := by
      have : run digN (l.drop (run digN l + 1)) ≠ 0 := by
        cases hl : l.drop (run digN l + 1) with
        | nil => rw [hl] at hc; simp [hd, digN] at hc
        | cons c t => rw [hl] at hc; simp [run]; exact hc.2
      omega
    rw [hd_take _ _ (by omega), hd_take _ _ (by omega), if_pos hc, if_pos hc, run_take]
    omega
  · rename_i hc
    rw [if_neg hc, if_neg]
    intro hx
    apply hc
    have h0 : 0 < m - run digN l := by
      apply Classical.byContradiction; intro h0
      have : m - run digN l = 0 := by omega
      rw [this] at hx; simp [hd] at hx
    have h1 : 0 < m - (run digN l + 1) := by
      apply Classical.byContradiction; intro h1
      have : m - (run digN l + 1) = 0 := by omega
      rw [this] at hx; simp [hd, digN] at hx
    rw [hd_take _ _ h0, hd_take _ _ h1] at hx
    exact hx
theorem drop_app (l r : List UInt8) (k : Nat) (h : k = l.length) : (l ++ r).drop k = r := by
  subst h; simp
theorem numLen_stop {r : List UInt8} (hr : Stops r) (l : List UInt8) : numLen (l.take (numLen l) ++ r) = numLen l := by
  have hle := numLen_le l
  have hle2 := run_le digN l
  unfold numLen at hle
  by_cases hc : hd (l.drop (run digN l)) = 47 ∧ digN (hd (l.drop (run digN l + 1))) = true
  · have e : numLen l = run digN l + 1 + run digN (l.drop (run digN l + 1)) := by unfold numLen; rw [if_pos hc]
    rw [if_pos hc] at hle
    obtain ⟨d, hd'⟩ : ∃ d, run digN l = d := ⟨_, rfl⟩
    obtain ⟨x, hx⟩ : ∃ x, run digN (l.drop (d + 1)) = x := ⟨_, rfl⟩
    rw [hd'] at hc hle hle2 e
    rw [hx] at hle e
    have hx1 : x ≠ 0 := by
      subst hx
      cases hl : l.drop (d + 1) with
      | nil => rw [hl] at hc; simp [hd, digN] at hc
      | cons c t => rw [hl] at hc; simp [run]; exact hc.2
    have e1 : run digN (l.take (d + 1 + x) ++ r) = d := by
      rw [take_split l d (d + 1 + x) (by omega)]
      have hh : hd ((l.drop d).take (d + 1 + x - d) ++ r) = 47 := by
        cases hl : l.drop d with
        | nil => rw [hl] at hc; simp [hd] at hc
        | cons c t => rw [hl] at hc; rw [show d + 1 + x - d = x + 1 by omega]; simp [hd]; simpa [hd] using hc.1
      have : ∀ (l : List UInt8) (r' : List UInt8), hd r' = 47 → run digN (l.take (run digN l) ++ r') = run digN l := by
        intro l r' hr'
        induction l with
        | nil =>
          cases r' with
          | nil => simp [hd] at hr'
          | cons c t => simp [hd] at hr'; simp [run, hr', digN]
        | cons c t ih =>
          simp only [run]
          split
          · rename_i hc; simp [run, hc, ih]
          · cases r' with
            | nil => simp [hd] at hr'
            | cons c t => simp [hd] at hr'; simp [run, hr', digN]
      rw [List.append_assoc]
      conv => lhs; rw [← hd']
      exact (this l _ (by rw [hd']; exact hh)).trans hd'
    have e2 : (l.take (d + 1 + x) ++ r).drop d = (l.drop d).take (1 + x) ++ r := by
      rw [List.drop_append_of_le_length (by simp; omega), List.drop_take]; congr 2; omega
    have e3 : (l.take (d + 1 + x) ++ r).drop (d + 1) = (l.drop (d + 1)).take x ++ r := by
      rw [List.drop_append_of_le_length (by simp; omega), List.drop_take]; congr 2; omega
    rw [e]
    unfold numLen
    rw [e1, e2, e3]
    rw [if_pos]
    · have := run_stop digN hr (by decide) (by decide) (l.drop (d + 1))
      rw [hx] at this
      rw [this]
    · constructor
      · cases hl : l.drop d with
        | nil => rw [hl] at hc; simp [hd] at hc
        | cons c t => rw [hl] at hc; rw [show 1 + x = x + 1 by omega]; simpa [hd] using hc.1
      · cases hl : l.drop (d + 1) with
        | nil => rw [hl] at hc; simp [hd, digN] at hc
        | cons c t =>
          rw [hl] at hc
          obtain ⟨y, rfl⟩ : ∃ y, x = y + 1 := ⟨x - 1, by omega⟩
          simpa [hd] using hc.2
  · have e : numLen l = run digN l := by unfold numLen; rw [if_neg hc]
    rw [e]
    unfold numLen
    have e1 := run_stop digN hr (by decide) (by decide) l
    rw [e1]
    have e2 : (l.take (run digN l) ++ r).drop (run digN l) = r := drop_app _ _ _ (by simp; omega)
    rw [e2, if_neg]
    have := hr.hd
    omega

/-- The token at the beginning is the same, whatever stands behind it, if that is nothing, or a blank. -/
theorem beh_stop {r : List UInt8} (hr : Stops r) (l : List UInt8) (h : (beh l).1 ≠ 0) : beh (l.take (beh l).2 ++ r) = beh l := by
  cases l with
  | nil => simp [beh] at h
  | cons c t =>
    by_cases h1 : c.toNat = 40
    · simp [beh, h1]
    by_cases h2 : c.toNat = 41
    · simp [beh, h2]
    by_cases h3 : lowN c.toNat = true
    · have e : beh (c :: t) = (3, 1 + run inwN t) := by simp [beh_cons, h1, h2, h3]
      rw [e, show 1 + run inwN t = run inwN t + 1 by omega]
      simp [beh_cons, h1, h2, h3, run_stop inwN hr (by decide) (by decide) t]; omega
    by_cases h4 : digN c.toNat = true ∨ (c.toNat = 45 ∧ digN (hd t) = true)
    · have e : beh (c :: t) = (6, 1 + numLen t) := by simp [beh_cons, h1, h2, h3, h4]
      rw [e, show 1 + numLen t = numLen t + 1 by omega]
      have h4' : digN c.toNat = true ∨ (c.toNat = 45 ∧ digN (hd (t.take (numLen t) ++ r)) = true) := by
        rcases h4 with h4 | ⟨h4, h5⟩
        · exact .inl h4
        · refine .inr ⟨h4, ?_⟩
          have : numLen t ≠ 0 := by
            cases t with
            | nil => simp [hd, digN] at h5
            | cons a b =>
              have : run digN (a :: b) ≠ 0 := by simp [run]; simpa [hd] using h5
              unfold numLen; split <;> omega
          cases t with
          | nil => simp [hd, digN] at h5
          | cons a b =>
            obtain ⟨j, hj⟩ : ∃ j, numLen (a :: b) = j + 1 := ⟨numLen (a :: b) - 1, by omega⟩
            rw [hj]; simpa [hd] using h5
      simp [beh_cons, h1, h2, h3, h4', numLen_stop hr t]; omega
    by_cases h5 : c.toNat = 60 ∧ hd t = 61
    · have e : beh (c :: t) = (4, 2) := by rw [beh_cons]; simp_all
      rw [e]
      cases t with
      | nil => simp [hd] at h5
      | cons a b => simp [hd] at h5; simp only [beh, List.take_succ_cons, List.take_zero, List.cons_append, List.nil_append, hd]; simp_all
    by_cases h6 : c.toNat = 61 ∨ c.toNat = 43 ∨ c.toNat = 42 ∨ c.toNat = 60 ∨ c.toNat = 45
    · have e : beh (c :: t) = (4, 1) := by rw [beh_cons]; rw [if_neg h1, if_neg h2, if_neg h3, if_neg (by simpa using h4), if_neg h5, if_pos h6]
      have hh := hr.hd
      have n1 : digN (hd r) = false := by rcases hh with hh | hh | hh <;> rw [hh] <;> decide
      have n2 : hd r ≠ 61 := by omega
      rw [e]
      simp only [List.take_succ_cons, List.take_zero, List.cons_append, List.nil_append]
      rw [beh_cons]
      rw [if_neg h1, if_neg h2, if_neg h3, if_neg (by simp only [n1]; simp at h4 ⊢; exact h4.1), if_neg (by intro x; exact n2 x.2), if_pos h6]
    by_cases h7 : c.toNat = 91
    · cases hb : brk t with
      | none => exfalso; apply h; rw [beh_cons]; rw [if_neg h1, if_neg h2, if_neg h3, if_neg (by simpa using h4), if_neg h5, if_neg h6, if_pos h7, hb]; rfl
      | some k =>
        have e : beh (c :: t) = (5, 1 + k) := by rw [beh_cons]; rw [if_neg h1, if_neg h2, if_neg h3, if_neg (by simpa using h4), if_neg h5, if_neg h6, if_pos h7, hb]; rfl
        rw [e, show 1 + k = k + 1 by omega]
        have hb2 := brk_app t r k hb
        simp only [List.take_succ_cons, List.cons_append]
        rw [beh_cons]
        rw [if_neg h1, if_neg h2, if_neg h3, if_neg (by simp [h7]; decide), if_neg (by omega), if_neg h6, if_pos h7, hb2]
        simp; omega
    by_cases h8 : c.toNat = 34
    · cases hb : qend false t with
      | none => exfalso; apply h; rw [beh_cons]; rw [if_neg h1, if_neg h2, if_neg h3, if_neg (by simpa using h4), if_neg h5, if_neg h6, if_neg h7, if_pos h8, hb]; rfl
      | some k =>
        have e : beh (c :: t) = (6, 1 + k) := by rw [beh_cons]; rw [if_neg h1, if_neg h2, if_neg h3, if_neg (by simpa using h4), if_neg h5, if_neg h6, if_neg h7, if_pos h8, hb]; rfl
        rw [e, show 1 + k = k + 1 by omega]
        have hb2 := qend_app false t r k hb
        simp only [List.take_succ_cons, List.cons_append]
        rw [beh_cons]
        rw [if_neg h1, if_neg h2, if_neg h3, if_neg (by simp [h8]; decide), if_neg (by omega), if_neg h6, if_neg h7, if_pos h8, hb2]
        simp; omega
    by_cases h9 : c.toNat = 64
    · have e : beh (c :: t) = (7, 1 + run digN t) := by rw [beh_cons]; rw [if_neg h1, if_neg h2, if_neg h3, if_neg (by simpa using h4), if_neg h5, if_neg h6, if_neg h7, if_neg h8, if_pos h9]
      rw [e, show 1 + run digN t = run digN t + 1 by omega]
      simp only [List.take_succ_cons, List.cons_append]
      rw [beh_cons]
      rw [if_neg h1, if_neg h2, if_neg h3, if_neg (by simp [h9]; decide), if_neg (by omega), if_neg h6, if_neg h7, if_neg h8, if_pos h9, run_stop digN hr (by decide) (by decide) t]
      simp; omega
    · exfalso; apply h; rw [beh_cons]; rw [if_neg h1, if_neg h2, if_neg h3, if_neg (by simpa using h4), if_neg h5, if_neg h6, if_neg h7, if_neg h8, if_neg h9]

/-- The token at the beginning of a text is that of each piece of the text that holds it whole. -/
theorem beh_take (l : List UInt8) (m : Nat) (h : (beh l).1 ≠ 0) (hm : (beh l).2 ≤ m) : beh (l.take m) = beh l := by
  cases l with
  | nil => simp [beh] at h
  | cons c t =>
    have hpos := (beh_le (c :: t) h).1
    obtain ⟨j, rfl⟩ : ∃ j, m = j + 1 := ⟨m - 1, by omega⟩
    rw [List.take_succ_cons]
    by_cases h1 : c.toNat = 40
    · simp [beh, h1]
    by_cases h2 : c.toNat = 41
    · simp [beh, h2]
    by_cases h3 : lowN c.toNat = true
    · have e : beh (c :: t) = (3, 1 + run inwN t) := by simp [beh_cons, h1, h2, h3]
      rw [e] at hm ⊢
      dsimp only at hm
      simp [beh_cons, h1, h2, h3, run_take inwN t j (by omega)]
    by_cases h4 : digN c.toNat = true ∨ (c.toNat = 45 ∧ digN (hd t) = true)
    · have e : beh (c :: t) = (6, 1 + numLen t) := by simp [beh_cons, h1, h2, h3, h4]
      rw [e] at hm ⊢
      dsimp only at hm
      have h4' : digN c.toNat = true ∨ (c.toNat = 45 ∧ digN (hd (t.take j)) = true) := by
        rcases h4 with h4 | ⟨h4, h5⟩
        · exact .inl h4
        · refine .inr ⟨h4, ?_⟩
          have : numLen t ≠ 0 := by
            cases t with
            | nil => simp [hd, digN] at h5
            | cons a b =>
              have : run digN (a :: b) ≠ 0 := by simp [run]; simpa [hd] using h5
              unfold numLen; split <;> omega
          rw [hd_take _ _ (by omega)]
          exact h5
      simp [beh_cons, h1, h2, h3, h4', numLen_take t j (by omega)]
    by_cases h5 : c.toNat = 60 ∧ hd t = 61
    · have e : beh (c :: t) = (4, 2) := by rw [beh_cons]; simp_all
      rw [e] at hm ⊢
      dsimp only at hm
      have h5' : c.toNat = 60 ∧ hd (t.take j) = 61 := by rw [hd_take _ _ (by omega)]; exact h5
      rw [beh_cons]
      rw [if_neg h1, if_neg h2, if_neg h3, if_neg (by simp [h5.1]; decide), if_pos h5']
    by_cases h6 : c.toNat = 61 ∨ c.toNat = 43 ∨ c.toNat = 42 ∨ c.toNat = 60 ∨ c.toNat = 45
    · have e : beh (c :: t) = (4, 1) := by rw [beh_cons]; rw [if_neg h1, if_neg h2, if_neg h3, if_neg (by simpa using h4), if_neg h5, if_pos h6]
      rw [e]
      have hj : hd (t.take j) = 0 ∨ hd (t.take j) = hd t := by
        cases j with
        | zero => left; simp [hd]
        | succ j => right; exact hd_take _ _ (by omega)
      rw [beh_cons]
      rw [if_neg h1, if_neg h2, if_neg h3, if_neg, if_neg, if_pos h6]
      · rcases hj with hj | hj <;> rw [hj]
        · simp
        · exact h5
      · rcases hj with hj | hj <;> rw [hj]
        · simp at h4 ⊢; exact ⟨h4.1, fun _ => by decide⟩
        · simpa using h4
    by_cases h7 : c.toNat = 91
    · cases hb : brk t with
      | none => exfalso; apply h; rw [beh_cons]; rw [if_neg h1, if_neg h2, if_neg h3, if_neg (by simpa using h4), if_neg h5, if_neg h6, if_pos h7, hb]; rfl
      | some k =>
        have e : beh (c :: t) = (5, 1 + k) := by rw [beh_cons]; rw [if_neg h1, if_neg h2, if_neg h3, if_neg (by simpa using h4), if_neg h5, if_neg h6, if_pos h7, hb]; rfl
        rw [e] at hm ⊢
        dsimp only at hm
        have hb2 := brk_app t ((t.drop k).take (j - k)) k hb
        rw [← take_split t k j (by omega)] at hb2
        rw [beh_cons]
        rw [if_neg h1, if_neg h2, if_neg h3, if_neg (by simp [h7]; decide), if_neg (by omega), if_neg h6, if_pos h7, hb2]
        rfl
    by_cases h8 : c.toNat = 34
    · cases hb : qend false t with
      | none => exfalso; apply h; rw [beh_cons]; rw [if_neg h1, if_neg h2, if_neg h3, if_neg (by simpa using h4), if_neg h5, if_neg h6, if_neg h7, if_pos h8, hb]; rfl
      | some k =>
        have e : beh (c :: t) = (6, 1 + k) := by rw [beh_cons]; rw [if_neg h1, if_neg h2, if_neg h3, if_neg (by simpa using h4), if_neg h5, if_neg h6, if_neg h7, if_pos h8, hb]; rfl
        rw [e] at hm ⊢
        dsimp only at hm
        have hb2 := qend_app false t ((t.drop k).take (j - k)) k hb
        rw [← take_split t k j (by omega)] at hb2
        rw [beh_cons]
        rw [if_neg h1, if_neg h2, if_neg h3, if_neg (by simp [h8]; decide), if_neg (by omega), if_neg h6, if_neg h7, if_pos h8, hb2]
        rfl
    by_cases h9 : c.toNat = 64
    · have e : beh (c :: t) = (7, 1 + run digN t) := by rw [beh_cons]; rw [if_neg h1, if_neg h2, if_neg h3, if_neg (by simpa using h4), if_neg h5, if_neg h6, if_neg h7, if_neg h8, if_pos h9]
      rw [e] at hm ⊢
      dsimp only at hm
      rw [beh_cons]
      rw [if_neg h1, if_neg h2, if_neg h3, if_neg (by simp [h9]; decide), if_neg (by omega), if_neg h6, if_neg h7, if_neg h8, if_pos h9, run_take digN t j (by omega)]
    · exfalso; apply h; rw [beh_cons]; rw [if_neg h1, if_neg h2, if_neg h3, if_neg (by simpa using h4), if_neg h5, if_neg h6, if_neg h7, if_neg h8, if_neg h9]

def blk (c : UInt8) : Bool := c.toNat == 32 || c.toNat == 10
structure Tok (V : Type) where
  k : Nat
  at_ : Nat
  x : List UInt8
  v : V
section
variable {V : Type} (sd : Nat → List UInt8 → V × Bool)
def fine (l : List UInt8) : Prop := (beh l).1 ≠ 0 ∧ (sd (beh l).1 (l.take (beh l).2)).2 = true
instance (l : List UInt8) : Decidable (fine sd l) := inferInstanceAs (Decidable (_ ∧ _))
def tokAt (l : List UInt8) (p : Nat) : Tok V := ⟨(beh l).1, p, l.take (beh l).2, (sd (beh l).1 (l.take (beh l).2)).1⟩
def toks : Nat → List UInt8 → Nat → List (Tok V) × Option Nat
  | 0, _, _ => ([], none)
  | _ + 1, [], _ => ([], none)
  | f + 1, c :: t, p =>
    if blk c then toks f t (p + 1)
    else if fine sd (c :: t) then (tokAt sd (c :: t) p :: (toks f ((c :: t).drop (beh (c :: t)).2) (p + (beh (c :: t)).2)).1, (toks f ((c :: t).drop (beh (c :: t)).2) (p + (beh (c :: t)).2)).2)
    else ([], some p)
theorem toks_fuel (f g : Nat) (l : List UInt8) (p : Nat) (hf : l.length ≤ f) (hg : l.length ≤ g) : toks sd f l p = toks sd g l p := by
  induction f generalizing g l p with
  | zero =>
    have : l = [] := List.length_eq_zero_iff.mp (by omega)
    subst this
    cases g <;> simp [toks]
  | succ f ih =>
    cases l with
    | nil => cases g <;> simp [toks]
    | cons c t =>
      cases g with
      | zero => simp at hg
      | succ g =>
        simp at hf hg
        simp only [toks]
        rw [ih g t (p + 1) hf hg]
        split
        · rfl
        split
        · rename_i h
          have h1 := beh_le _ h.1
          have h2 : ((c :: t).drop (beh (c :: t)).2).length ≤ t.length := by simp; omega
          rw [ih g ((c :: t).drop (beh (c :: t)).2) (p + (beh (c :: t)).2) (by omega) (by omega)]
        · rfl
/-- The tokens of a text that begins at a place, and where the first is that is none. -/
def T (l : List UInt8) (p : Nat) : List (Tok V) × Option Nat := toks sd l.length l p
theorem T_nil (p : Nat) : T sd [] p = ([], none) := rfl
theorem T_blank {c : UInt8} (t : List UInt8) (p : Nat) (h : blk c = true) : T sd (c :: t) p = T sd t (p + 1) := by
  simp [T, toks, h]
theorem T_tok {c : UInt8} {t : List UInt8} (p : Nat) (h : blk c = false) (hf : fine sd (c :: t)) :
    T sd (c :: t) p = (tokAt sd (c :: t) p :: (T sd ((c :: t).drop (beh (c :: t)).2) (p + (beh (c :: t)).2)).1, (T sd ((c :: t).drop (beh (c :: t)).2) (p + (beh (c :: t)).2)).2) := by
  have h1 := beh_le _ hf.1
  have h2 : ((c :: t).drop (beh (c :: t)).2).length ≤ t.length := by simp; omega
  simp only [T]
  rw [show (c :: t).length = t.length + 1 from rfl]
  simp only [toks, h, if_pos hf]
  rw [toks_fuel sd t.length _ ((c :: t).drop (beh (c :: t)).2) _ h2 (Nat.le_refl _)]
  rfl
theorem T_none {c : UInt8} {t : List UInt8} (p : Nat) (h : blk c = false) (hf : ¬ fine sd (c :: t)) : T sd (c :: t) p = ([], some p) := by
  simp [T, toks, h, hf]

/-- A text is nothing but blanks, or blanks and a token with the rest behind it, or blanks and what is no token. -/
theorem T_cases (l : List UInt8) (p : Nat) :
    ((∀ c ∈ l, blk c = true) ∧ T sd l p = ([], none))
    ∨ (∃ b, b < l.length ∧ (∀ c ∈ l.take b, blk c = true) ∧ hd (l.drop b) ≠ 32 ∧ hd (l.drop b) ≠ 10 ∧ fine sd (l.drop b) ∧ T sd l p = (tokAt sd (l.drop b) (p + b) :: (T sd (l.drop (b + (beh (l.drop b)).2)) (p + b + (beh (l.drop b)).2)).1, (T sd (l.drop (b + (beh (l.drop b)).2)) (p + b + (beh (l.drop b)).2)).2))
    ∨ (∃ b, b < l.length ∧ (∀ c ∈ l.take b, blk c = true) ∧ hd (l.drop b) ≠ 32 ∧ hd (l.drop b) ≠ 10 ∧ ¬ fine sd (l.drop b) ∧ T sd l p = ([], some (p + b))) := by
  induction l generalizing p with
  | nil => left; exact ⟨by simp, rfl⟩
  | cons c t ih =>
    cases hb : blk c with
    | true =>
      rw [T_blank sd t p hb]
      rcases ih (p + 1) with ⟨h1, h2⟩ | ⟨b, h1, h2, h2a, h2b, h3, h4⟩ | ⟨b, h1, h2, h2a, h2b, h3, h4⟩
      · left; exact ⟨by intro x hx; cases hx with | head => exact hb | tail _ h => exact h1 x h, h2⟩
      · right; left
        refine ⟨b + 1, by simp; omega, ?_, h2a, h2b, h3, ?_⟩
        · intro x hx
          rw [List.take_succ_cons] at hx
          cases hx with | head => exact hb | tail _ h => exact h2 x h
        · rw [h4, show b + 1 + (beh ((c :: t).drop (b + 1))).2 = b + (beh (t.drop b)).2 + 1 by simp; omega]
          simp only [List.drop_succ_cons]
          rw [show p + 1 + b = p + (b + 1) by omega]
      · right; right
        refine ⟨b + 1, by simp; omega, ?_, h2a, h2b, h3, ?_⟩
        · intro x hx
          rw [List.take_succ_cons] at hx
          cases hx with | head => exact hb | tail _ h => exact h2 x h
        · rw [h4, show p + 1 + b = p + (b + 1) by omega]
    | false =>
      have hn : c.toNat ≠ 32 ∧ c.toNat ≠ 10 := by simpa [blk] using hb
      by_cases hf : fine sd (c :: t)
      · right; left
        refine ⟨0, by simp, by simp, hn.1, hn.2, hf, ?_⟩
        rw [T_tok sd p hb hf]; simp
      · right; right
        exact ⟨0, by simp, by simp, hn.1, hn.2, hf, T_none sd p hb hf⟩

theorem T_blanks (b r : List UInt8) (p : Nat) (h : ∀ c ∈ b, blk c = true) : T sd (b ++ r) p = T sd r (p + b.length) := by
  induction b generalizing p with
  | nil => rfl
  | cons c t ih =>
    rw [List.cons_append, T_blank sd _ _ (h c (by simp)), ih (p + 1) (fun x hx => h x (by simp [hx]))]
    simp; congr 1; omega
theorem blk_of {l : List UInt8} (h0 : l ≠ []) (h1 : hd l ≠ 32) (h2 : hd l ≠ 10) : ∃ c t, l = c :: t ∧ blk c = false := by
  cases l with
  | nil => exact absurd rfl h0
  | cons c t => exact ⟨c, t, rfl, by simp [blk]; simpa [hd] using ⟨h1, h2⟩⟩
theorem T_tok' {l : List UInt8} (p : Nat) (h0 : l ≠ []) (h1 : hd l ≠ 32) (h2 : hd l ≠ 10) (hf : fine sd l) :
    T sd l p = (tokAt sd l p :: (T sd (l.drop (beh l).2) (p + (beh l).2)).1, (T sd (l.drop (beh l).2) (p + (beh l).2)).2) := by
  obtain ⟨c, t, rfl, hb⟩ := blk_of h0 h1 h2
  exact T_tok sd p hb hf
theorem T_none' {l : List UInt8} (p : Nat) (h0 : l ≠ []) (h1 : hd l ≠ 32) (h2 : hd l ≠ 10) (hf : ¬ fine sd l) : T sd l p = ([], some p) := by
  obtain ⟨c, t, rfl, hb⟩ := blk_of h0 h1 h2
  exact T_none sd p hb hf
theorem fine_take (l : List UInt8) (m : Nat) (hm : (beh l).2 ≤ m) (h : fine sd l) : fine sd (l.take m) ∧ (∀ p, tokAt sd (l.take m) p = tokAt sd l p) := by
  have e := beh_take l m h.1 hm
  refine ⟨?_, fun p => ?_⟩
  · unfold fine; rw [e, List.take_take, Nat.min_eq_left hm]; exact h
  · unfold tokAt; rw [e, List.take_take, Nat.min_eq_left hm]

/-- The place of what is none lies in the text; ahead of it all is cut, and from there on it stands at the beginning. -/
theorem T_ahead (n : Nat) (l : List UInt8) (hn : l.length ≤ n) (p q : Nat) (h : (T sd l p).2 = some q) :
    p ≤ q ∧ q - p < l.length ∧ (T sd (l.take (q - p)) p).2 = none ∧ T sd (l.drop (q - p)) 0 = ([], some 0) := by
  induction n generalizing l p with
  | zero =>
    have : l = [] := List.length_eq_zero_iff.mp (by omega)
    subst this
    simp [T, toks] at h
  | succ n ih =>
    rcases T_cases sd l p with ⟨h1, h2⟩ | ⟨b, h1, h2, h2a, h2b, h3, h4⟩ | ⟨b, h1, h2, h2a, h2b, h3, h4⟩
    · rw [h2] at h; cases h
    · rw [h4] at h
      have hle := beh_le _ h3.1
      have hl : (l.drop b).length = l.length - b := by simp
      have hne : l.drop b ≠ [] := by intro x; rw [x] at hl; simp at hl; omega
      obtain ⟨m, hm⟩ : ∃ m, (beh (l.drop b)).2 = m := ⟨_, rfl⟩
      rw [hm] at h h4 hle
      dsimp only at h
      obtain ⟨g1, g2, g3, g4⟩ := ih (l.drop (b + m)) (by simp; omega) (p + b + m) h
      simp only [List.length_drop] at g2
      refine ⟨by omega, by omega, ?_, ?_⟩
      · have e1 : l.take (q - p) = l.take b ++ (l.drop b).take (q - p - b) := take_split l b (q - p) (by omega)
        rw [e1, T_blanks sd _ _ _ h2]
        have hlb : (l.take b).length = b := by simp; omega
        rw [hlb]
        obtain ⟨f1, f2⟩ := fine_take sd (l.drop b) (q - p - b) (by omega) h3
        have hd1 : hd ((l.drop b).take (q - p - b)) = hd (l.drop b) := hd_take _ _ (by omega)
        have e2 : beh ((l.drop b).take (q - p - b)) = beh (l.drop b) := beh_take _ _ h3.1 (by omega)
        rw [T_tok' sd (p + b) (by intro x; rw [x] at hd1; have := f1.1; rw [x] at this; simp [beh] at this) (by rw [hd1]; exact h2a) (by rw [hd1]; exact h2b) f1]
        rw [e2, hm, List.drop_take, List.drop_drop]
        dsimp only
        rw [show q - p - b - m = q - (p + b + m) by omega]
        exact g3
      · rw [List.drop_drop] at g4
        rw [show q - p = b + m + (q - (p + b + m)) by omega]
        exact g4
    · rw [h4] at h
      have hq : q = p + b := by simpa using h.symm
      subst hq
      have hne : l.drop b ≠ [] := by
        intro x
        have : (l.drop b).length = l.length - b := by simp
        rw [x] at this; simp at this; omega
      rw [show p + b - p = b by omega]
      refine ⟨by omega, h1, ?_, T_none' sd 0 hne h2a h2b h3⟩
      have := T_blanks sd (l.take b) [] p h2
      rw [List.append_nil] at this
      rw [this]; rfl
theorem T_in (l : List UInt8) (p q : Nat) (h : (T sd l p).2 = some q) : p ≤ q ∧ q - p < l.length := by
  have := T_ahead sd l.length l (Nat.le_refl _) p q h
  exact ⟨this.1, this.2.1⟩

/-- A token that may be, by itself. -/
structure Good (t : Tok V) : Prop where
  k : t.k ≠ 0
  b : beh t.x = (t.k, t.x.length)
  s : sd t.k t.x = (t.v, true)
theorem Good.pos {t : Tok V} (h : Good sd t) : 1 ≤ t.x.length := by
  have := beh_le t.x (by rw [h.b]; exact h.k)
  rw [h.b] at this; exact this.1
theorem good_at (l : List UInt8) (p : Nat) (h : fine sd l) : Good sd (tokAt sd l p) := by
  have hle := beh_le l h.1
  refine ⟨h.1, ?_, ?_⟩
  · show beh (l.take (beh l).2) = ((beh l).1, (l.take (beh l).2).length)
    rw [beh_take l _ h.1 (Nat.le_refl _), List.length_take, Nat.min_eq_left hle.2]
  · show sd (beh l).1 (l.take (beh l).2) = ((sd (beh l).1 (l.take (beh l).2)).1, true)
    rw [← h.2]
theorem T_good (n : Nat) (l : List UInt8) (hn : l.length ≤ n) (p : Nat) : ∀ t ∈ (T sd l p).1, Good sd t := by
  induction n generalizing l p with
  | zero =>
    have : l = [] := List.length_eq_zero_iff.mp (by omega)
    subst this
    simp [T, toks]
  | succ n ih =>
    rcases T_cases sd l p with ⟨h1, h2⟩ | ⟨b, h1, h2, h2a, h2b, h3, h4⟩ | ⟨b, h1, h2, h2a, h2b, h3, h4⟩
    · rw [h2]; simp
    · rw [h4]
      have hle := beh_le _ h3.1
      intro t ht
      cases ht with
      | head => exact good_at sd _ _ h3
      | tail _ ht => exact ih _ (by simp; omega) _ t ht
    · rw [h4]; simp
/-- Tokens laid down with blanks ahead of each. -/
def lay : List (List UInt8 × Tok V) → List UInt8
  | [] => []
  | (g, t) :: r => g ++ (t.x ++ lay r)
/-- The tokens as they are found there. -/
def moved : List (List UInt8 × Tok V) → Nat → List (Tok V)
  | [], _ => []
  | (g, t) :: r, p => ⟨t.k, p + g.length, t.x, t.v⟩ :: moved r (p + g.length + t.x.length)
theorem lay_stops (r : List (List UInt8 × Tok V)) (h : ∀ y ∈ r, y.1 ≠ [] ∧ ∀ c ∈ y.1, blk c = true) : Stops (lay r) := by
  cases r with
  | nil => exact .nil
  | cons y r =>
    obtain ⟨g, t⟩ := y
    obtain ⟨h1, h2⟩ := h (g, t) (by simp)
    cases g with
    | nil => exact absurd rfl h1
    | cons c g => exact .cons (by simpa [blk] using h2 c (by simp))
theorem T_again (r : List (List UInt8 × Tok V)) (p : Nat) (h : ∀ y ∈ r, (y.1 ≠ [] ∧ ∀ c ∈ y.1, blk c = true) ∧ Good sd y.2) : T sd (lay r) p = (moved r p, none) := by
  induction r generalizing p with
  | nil => rfl
  | cons y r ih =>
    obtain ⟨g, t⟩ := y
    obtain ⟨⟨h1, h2⟩, h3⟩ := h (g, t) (by simp)
    have hst := lay_stops r (fun y hy => (h y (by simp [hy])).1)
    have hpos := h3.pos
    have hk : (beh t.x).1 ≠ 0 := by rw [h3.b]; exact h3.k
    have e := beh_stop hst t.x hk
    have e0 : t.x.take (beh t.x).2 = t.x := by rw [h3.b]; simp
    rw [e0, h3.b] at e
    show T sd (g ++ (t.x ++ lay r)) p = _
    rw [T_blanks sd g _ p h2]
    have hf : fine sd (t.x ++ lay r) := by
      unfold fine; rw [e]; refine ⟨h3.k, ?_⟩
      dsimp only
      rw [List.take_left', h3.s]; rfl
    have hx : ∃ c u, t.x = c :: u := by
      cases hx : t.x with
      | nil => rw [hx] at hpos; simp at hpos
      | cons c u => exact ⟨c, u, rfl⟩
    obtain ⟨c, u, hx⟩ := hx
    have hb : blk c = false := by
      have hh := h3.b
      rw [hx] at hh
      cases hb : blk c with
      | false => rfl
      | true =>
        exfalso
        have : c.toNat = 32 ∨ c.toNat = 10 := by simpa [blk] using hb
        have h0 := h3.k
        have h9 : (beh (c :: u)).1 = t.k := by rw [hh]
        rw [← h9] at h0
        apply h0
        rcases this with h | h <;> simp [beh_cons, h, lowN, digN]
    have hne : t.x ++ lay r ≠ [] := by rw [hx]; simp
    have hd1 : hd (t.x ++ lay r) ≠ 32 ∧ hd (t.x ++ lay r) ≠ 10 := by rw [hx]; simpa [hd, blk] using hb
    rw [T_tok' sd _ hne hd1.1 hd1.2 hf]
    have e1 : (t.x ++ lay r).drop (beh (t.x ++ lay r)).2 = lay r := by rw [e]; simp
    rw [e1, ih _ (fun y hy => h y (by simp [hy]))]
    have e2 : tokAt sd (t.x ++ lay r) (p + g.length) = ⟨t.k, p + g.length, t.x, t.v⟩ := by
      unfold tokAt; rw [e]; dsimp only; rw [List.take_left', h3.s]; rfl
    rw [e2, e]
    rfl
end
end LX
end Go.Proofs.YtmegombglkcccaaDoor

namespace Go.Proofs.YtmegombglkcccaaDoor
open Go.RowKit LX

/-- As Q; by a goto to a label: what J says of that label. -/
def Exit.jumps (J : Nat → Act → World → Prop) (Q : Exit → Act → World → Prop) : Exit → Act → World → Prop
  | .goto l, a, w => J l a w
  | e, a, w => Q e a w
section
variable {P : Program} {a : Act} {w : World} {Q : Exit → Act → World → Prop}
theorem wp_scope_labels {c : Code} (J : Nat → Act → World → Prop) (μ : Nat → Act → World → Nat)
    (first : c.wp P (Exit.jumps J Q) a w)
    (pass : ∀ l a w, J l a w → ∃ rest, findLabel c l = some rest ∧ rest.wp P (Exit.jumps (fun l' a' w' => J l' a' w' ∧ μ l' a' w' < μ l a w) Q) a w) : (Code.scope c).wp P Q a w := by
  intro b k cs
  have key : ∀ n l a w rest, findLabel c l = some rest → μ l a w = n → J l a w → ∃ e a' w', Q e a' w' ∧ Arrives P (lone (b.at a (.code rest :: .inScope c :: k)) cs w) b k cs e a' w' := by
    intro n
    induction n using Nat.strongRecOn with
    | _ n ih =>
      intro l a w rest hf hn hJ
      obtain ⟨rest', hf', hp⟩ := pass l a w hJ
      rw [hf] at hf'
      cases hf'
      obtain ⟨e, a₁, w₁, hq, harr⟩ := hp b (.inScope c :: k) cs
      cases e with
      | normal => exact ⟨.normal, a₁, w₁, hq, Steps.trans harr (.one step_inScope)⟩
      | exit id => exact ⟨.exit id, a₁, w₁, hq, fun k' hk => harr k' (by simp [exitTo, hk])⟩
      | goto l' =>
        obtain ⟨hJ', hlt⟩ := hq
        obtain ⟨rest2, hf2, -⟩ := pass l' a₁ w₁ hJ'
        have hg : gotoIn l' (.inScope c :: k) = some (.code rest2 :: .inScope c :: k) := by simp [gotoIn, hf2]
        obtain ⟨e₂, a₂, w₂, hq₂, harr₂⟩ := ih _ (by omega) l' a₁ w₁ rest2 hf2 rfl hJ'
        exact ⟨e₂, a₂, w₂, hq₂, .of_steps (harr _ hg) harr₂⟩
      | ret => exact ⟨_, a₁, w₁, hq, harr⟩
      | panic ch => exact ⟨_, a₁, w₁, hq, harr⟩
      | outgrown => exact ⟨_, a₁, w₁, hq, harr⟩
  obtain ⟨e, a₁, w₁, hq, harr⟩ := first b (.inScope c :: k) cs
  cases e with
  | normal => exact ⟨.normal, a₁, w₁, hq, .head step_scope (Steps.trans harr (.one step_inScope))⟩
  | exit id => exact ⟨.exit id, a₁, w₁, hq, fun k' hk => .head step_scope (harr k' (by simp [exitTo, hk]))⟩
  | goto l' =>
    obtain ⟨rest, hf, -⟩ := pass l' a₁ w₁ hq
    have hg : gotoIn l' (.inScope c :: k) = some (.code rest :: .inScope c :: k) := by simp [gotoIn, hf]
    obtain ⟨e₂, a₂, w₂, hq₂, harr₂⟩ := key _ l' a₁ w₁ rest hf rfl hq
    exact ⟨e₂, a₂, w₂, hq₂, .of_steps (.head step_scope (harr _ hg)) harr₂⟩
  | ret => exact ⟨_, a₁, w₁, hq, .of_steps (.one step_scope) harr⟩
  | panic ch => exact ⟨_, a₁, w₁, hq, .of_steps (.one step_scope) harr⟩
  | outgrown => exact ⟨_, a₁, w₁, hq, .of_steps (.one step_scope) harr⟩
theorem wp_scope_gotos {c : Code} (J : Nat → Act → World → Prop) (μ : Nat → Act → World → Nat)
    (pass : ∀ l a w, J l a w → ∃ y, findLabel c l = some (.seq .skip y) ∧ y.wp P (Exit.jumps (fun l' a' w' => J l' a' w' ∧ μ l' a' w' < μ l a w) Q) a w)
    (first : (∀ l a w y, J l a w → findLabel c l = some (.seq .skip y) → y.wp P (Exit.jumps J Q) a w) → c.wp P (Exit.jumps J Q) a w) : (Code.scope c).wp P Q a w := by
  refine wp_scope_labels J μ (first ?_) ?_
  · intro l a w y h hf
    obtain ⟨r, hr, hp⟩ := pass l a w h
    rw [hf] at hr
    cases hr
    refine wp_mono hp ?_
    intro e a w h
    cases e with
    | goto l => exact h.1
    | _ => exact h
  · intro l a w h
    obtain ⟨r, hr, hp⟩ := pass l a w h
    exact ⟨_, hr, wp_seq (wp_skip hp)⟩
theorem wp_scope_from {y0 : Code} (l0 : Nat) (J : Nat → Act → World → Prop) (μ : Nat → Act → World → Nat) (hf : findLabel (.seq (.label l0) y0) l0 = some (.seq .skip y0))
    (h0 : J l0 a w)
    (pass : ∀ l a w, J l a w → ∃ y, findLabel (.seq (.label l0) y0) l = some (.seq .skip y) ∧ y.wp P (Exit.jumps (fun l' a' w' => J l' a' w' ∧ μ l' a' w' < μ l a w) Q) a w) : (Code.scope (.seq (.label l0) y0)).wp P Q a w :=
  wp_scope_gotos J μ pass (fun h => wp_seq (wp_label (h l0 a w y0 h0 hf)))
end


theorem reti {k : IntKind} {a b : Int} (h : a = b) : Ending.returned (.int k a) = .returned (.int k b) := by rw [h]
theorem retb {a b : Bool} (h : a = b) : Ending.returned (.bool a) = .returned (.bool b) := by rw [h]
theorem hd_drop (s : ByteArray) (i : Nat) (h : i < s.size) : hd (s.data.toList.drop i) = s[i].toNat := by
  have h' : i < s.data.toList.length := by simpa using h
  rw [List.drop_eq_getElem_cons h']
  rfl
theorem hd_end (s : ByteArray) (i : Nat) (h : s.size ≤ i) : hd (s.data.toList.drop i) = 0 := by
  rw [List.drop_eq_nil_of_le (by simpa using h)]; rfl
theorem hd_lt (l : List UInt8) : hd l < 256 := by
  cases l with
  | nil => simp [hd]
  | cons c t => exact c.toNat_lt

theorem letter_any (c : Nat) (w : World) (hc : c < 256) :
    Calls Tryd.prog 15 #[.int .u8 c] w fun e w' => e = .returned (.bool (lowN c)) ∧ w' = w := by
  go_enter Tryd.func15, Tryd.ntmps15
  go_wp2
  all_goals go_ret
  all_goals refine ⟨retb ?_, rfl⟩
  all_goals unfold lowN
  all_goals rw [Bool.eq_iff_iff]
  all_goals simp
  all_goals omega
theorem digit_any (c : Nat) (w : World) (hc : c < 256) :
    Calls Tryd.prog 16 #[.int .u8 c] w fun e w' => e = .returned (.bool (digN c)) ∧ w' = w := by
  go_enter Tryd.func16, Tryd.ntmps16
  go_wp2
  all_goals go_ret
  all_goals refine ⟨retb ?_, rfl⟩
  all_goals unfold digN
  all_goals rw [Bool.eq_iff_iff]
  all_goals simp
  all_goals omega
set_option maxHeartbeats 1000000 in
theorem inword_any (c : Nat) (w : World) (hc : c < 256) :
    Calls Tryd.prog 20 #[.int .u8 c] w fun e w' => e = .returned (.bool (inwN c)) ∧ w' = w := by
  have A : Hid (∀ W : World, Calls Tryd.prog 15 #[.int .u8 c] W fun e w' => e = .returned (.bool (lowN c)) ∧ w' = W) := fun W => letter_any c W hc
  have D : Hid (∀ W : World, Calls Tryd.prog 16 #[.int .u8 c] W fun e w' => e = .returned (.bool (digN c)) ∧ w' = W) := fun W => digit_any c W hc
  unfold inwN
  generalize lowN c = a at A ⊢
  generalize digN c = b at D ⊢
  cases a
  · cases b
    · go_enter Tryd.func20, Tryd.ntmps20
      go_wp2_with fail
      refine (A.out _).mono ?_
      rintro e w1 ⟨rfl, rfl⟩
      go_wp2_with fail
      refine (D.out _).mono ?_
      rintro e w1 ⟨rfl, rfl⟩
      go_wp2
      all_goals go_ret
      all_goals refine ⟨retb ?_, rfl⟩
      all_goals rw [Bool.eq_iff_iff]
      all_goals simp
      all_goals omega
    · go_enter Tryd.func20, Tryd.ntmps20
      go_wp2_with fail
      refine (A.out _).mono ?_
      rintro e w1 ⟨rfl, rfl⟩
      go_wp2_with fail
      refine (D.out _).mono ?_
      rintro e w1 ⟨rfl, rfl⟩
      go_wp2
      go_ret
      exact ⟨rfl, rfl⟩
  · go_enter Tryd.func20, Tryd.ntmps20
    go_wp2_with fail
    refine (A.out _).mono ?_
    rintro e w1 ⟨rfl, rfl⟩
    go_wp2
    go_ret
    exact ⟨rfl, rfl⟩
theorem peek_any (s : ByteArray) (i : Nat) (w : World) :
    Calls Tryd.prog 17 #[.string s, .int .i64 i] w fun e w' => e = .returned (.int .u8 (hd (s.data.toList.drop i))) ∧ w' = w := by
  by_cases h : i < s.size
  · rw [hd_drop s i h]
    go_enter Tryd.func17, Tryd.ntmps17
    go_wp2
    go_ret
    exact ⟨rfl, rfl⟩
  · rw [hd_end s i (by omega)]
    go_enter Tryd.func17, Tryd.ntmps17
    go_wp2
    go_ret
    exact ⟨rfl, rfl⟩
end Go.Proofs.YtmegombglkcccaaDoor

namespace Go.Proofs.YtmegombglkcccaaDoor
open Go.RowKit LX

def intAt (a : Act) (i : Nat) : Int := match a.tmps.getD i undef with | .int _ q => q | _ => 0


theorem run_yes (p : Nat → Bool) (h0 : p 0 = false) {l : List UInt8} {e : Nat} (h : p (hd (l.drop e)) = true) : e < l.length ∧ run p (l.drop e) = run p (l.drop (e + 1)) + 1 := by
  by_cases he : e < l.length
  · refine ⟨he, ?_⟩
    rw [List.drop_eq_getElem_cons he] at h ⊢
    simp only [hd] at h
    simp [run, h]
  · rw [List.drop_eq_nil_of_le (by omega)] at h
    rw [hd, h0] at h
    cases h
theorem run_no (p : Nat → Bool) {l : List UInt8} (h : p (hd l) = false) : run p l = 0 := by
  cases l with
  | nil => rfl
  | cons c t => simp only [hd] at h; simp [run, h]
theorem num_yes {l : List UInt8} {e : Nat} (h : digN (hd (l.drop e)) = true) : e < l.length ∧ numLen (l.drop e) = numLen (l.drop (e + 1)) + 1 := by
  obtain ⟨h1, h2⟩ := run_yes digN rfl h
  refine ⟨h1, ?_⟩
  unfold numLen
  rw [h2]
  simp only [List.drop_drop]
  rw [show e + (run digN (l.drop (e + 1)) + 1) = e + 1 + run digN (l.drop (e + 1)) by omega, show e + (run digN (l.drop (e + 1)) + 1 + 1) = e + 1 + (run digN (l.drop (e + 1)) + 1) by omega]
  split <;> omega
theorem num_no {l : List UInt8} {e : Nat} (h : digN (hd (l.drop e)) = false) : numLen (l.drop e) = if hd (l.drop e) = 47 ∧ digN (hd (l.drop (e + 1))) = true then 1 + run digN (l.drop (e + 1)) else 0 := by
  unfold numLen
  rw [run_no digN h]
  simp only [List.drop_drop, Nat.add_zero, Nat.zero_add]

set_option maxRecDepth 100000 in
set_option maxHeartbeats 4000000 in
theorem numeral_any (s : ByteArray) (i : Nat) (w : World) (hs : s.size ≤ 16384) (hi : i ≤ s.size) :
    Calls Tryd.prog 18 #[.string s, .int .i64 i] w fun e w' => e = .returned (.int .i64 (i + numLen (s.data.toList.drop i) : Nat)) ∧ w' = w := by
  have hl : s.data.toList.length = s.size := by simp
  have PK : Hid (∀ (e : Nat) (W : World), Calls Tryd.prog 17 #[.string s, .int .i64 e] W fun x w' => x = .returned (.int .u8 (hd (s.data.toList.drop e))) ∧ w' = W) := fun e W => peek_any s e W
  have DG : Hid (∀ (e : Nat) (W : World), Calls Tryd.prog 16 #[.int .u8 (hd (s.data.toList.drop e))] W fun x w' => x = .returned (.bool (digN (hd (s.data.toList.drop e)))) ∧ w' = W) := fun e W => digit_any _ W (hd_lt _)
  obtain ⟨R, eR⟩ : ∃ R, Hid (i + numLen (s.data.toList.drop i) = R) := ⟨_, rfl⟩
  rw [eR.out]
  go_enter Tryd.func18, Tryd.ntmps18
  go_wp2
  refine wp_scope_from 0 (fun l a w' => w' = w ∧ ∃ (e : Nat) (u2 u3 u4 u5 u6 u7 u8 u9 u10 u11 u12 u13 u14 u15 u16 u17 u18 u19 u20 u21 u22 u23 u24 u25 u26 u27 u28 u29 u30 u31 : Value), a = { tmps := #[.string s, .int .i64 (e : Nat), u2, u3, u4, u5, u6, u7, u8, u9, u10, u11, u12, u13, u14, u15, u16, u17, u18, u19, u20, u21, u22, u23, u24, u25, u26, u27, u28, u29, u30, u31], defers := [] } ∧ e ≤ s.size ∧ ((l = 0 ∧ Hid (e + numLen (s.data.toList.drop e) = R)) ∨ (l = 1 ∧ Hid (e + run digN (s.data.toList.drop e) = R)))) (fun _ a _ => (s.size - intAt a 1).toNat) rfl ?_ ?_
  · exact ⟨rfl, i, _, _, _, _, _, _, _, _, _, _, _, _, _, _, _, _, _, _, _, _, _, _, _, _, _, _, _, _, _, _, rfl, hi, .inl ⟨rfl, eR⟩⟩
  · rintro l a w' ⟨rfl, e, u2, u3, u4, u5, u6, u7, u8, u9, u10, u11, u12, u13, u14, u15, u16, u17, u18, u19, u20, u21, u22, u23, u24, u25, u26, u27, u28, u29, u30, u31, rfl, he, ⟨rfl, hR⟩ | ⟨rfl, hR⟩⟩
    · refine ⟨_, rfl, ?_⟩
      go_wp2_with fail
      refine (PK.out e _).mono ?_
      rintro x w1 ⟨rfl, rfl⟩
      go_wp2_with fail
      refine (DG.out e _).mono ?_
      rintro x w1 ⟨rfl, rfl⟩
      cases hd0 : digN (hd (s.data.toList.drop e))
      · go_wp2_with fail
        refine (PK.out e _).mono ?_
        rintro x w1 ⟨rfl, rfl⟩
        by_cases h47 : hd (s.data.toList.drop e) = 47
        · have h47' : ((hd (s.data.toList.drop e) : Nat) : Int) = 47 := by omega
          have hlt : e < s.size := by
            apply Classical.byContradiction
            intro hn
            rw [hd_end s e (by omega)] at h47
            cases h47
          go_wp2_with fail
          refine (PK.out (e + 1) _).mono ?_
          rintro x w1 ⟨rfl, rfl⟩
          go_wp2_with fail
          refine (DG.out (e + 1) _).mono ?_
          rintro x w1 ⟨rfl, rfl⟩
          cases hd1 : digN (hd (s.data.toList.drop (e + 1)))
          · go_wp2
            have hr := num_no hd0
            rw [if_neg (by rw [hd1]; simp)] at hr
            have hR' := hR.out
            simp only [Exit.jumps]
            go_ret
            exact ⟨reti (by omega), rfl⟩
          · go_wp2
            go_step3
            have hr := num_no hd0
            rw [if_pos ⟨h47, hd1⟩] at hr
            have hR' := hR.out
            refine ⟨⟨rfl, e + 1, _, _, _, _, _, _, _, _, _, _, _, _, _, _, _, _, _, _, _, _, _, _, _, _, _, _, _, _, _, _, rfl, by omega, .inr ⟨rfl, (show _ = _ by omega)⟩⟩, ?_⟩
            simp [intAt]
            omega
        · have h47' : ¬ ((hd (s.data.toList.drop e) : Nat) : Int) = 47 := by omega
          go_wp2
          have hr := num_no hd0
          rw [if_neg (by intro hx; exact h47 hx.1)] at hr
          have hR' := hR.out
          simp only [Exit.jumps]
          go_ret
          exact ⟨reti (by omega), rfl⟩
      · obtain ⟨g1, g2⟩ := num_yes hd0
        rw [hl] at g1
        go_wp2
        go_step3
        have hR' := hR.out
        refine ⟨⟨rfl, e + 1, _, _, _, _, _, _, _, _, _, _, _, _, _, _, _, _, _, _, _, _, _, _, _, _, _, _, _, _, _, _, rfl, by omega, .inl ⟨rfl, (show _ = _ by omega)⟩⟩, ?_⟩
        simp [intAt]
        omega
    · refine ⟨_, rfl, ?_⟩
      go_wp2_with fail
      refine (PK.out e _).mono ?_
      rintro x w1 ⟨rfl, rfl⟩
      go_wp2_with fail
      refine (DG.out e _).mono ?_
      rintro x w1 ⟨rfl, rfl⟩
      cases hd0 : digN (hd (s.data.toList.drop e))
      · go_wp2
        have hr := run_no digN hd0
        have hR' := hR.out
        simp only [Exit.jumps]
        go_ret
        exact ⟨reti (by omega), rfl⟩
      · obtain ⟨g1, g2⟩ := run_yes digN rfl hd0
        rw [hl] at g1
        go_wp2
        go_step3
        have hR' := hR.out
        refine ⟨⟨rfl, e + 1, _, _, _, _, _, _, _, _, _, _, _, _, _, _, _, _, _, _, _, _, _, _, _, _, _, _, _, _, _, _, rfl, by omega, .inr ⟨rfl, (show _ = _ by omega)⟩⟩, ?_⟩
        simp [intAt]
        omega
end Go.Proofs.YtmegombglkcccaaDoor

namespace Go.Proofs.YtmegombglkcccaaDoor
open Go.RowKit LX

theorem qend_nil (b : Bool) (l : List UInt8) (e : Nat) (h : l.length ≤ e) : qend b (l.drop e) = none := by
  rw [List.drop_eq_nil_of_le h]; cases b <;> rfl
theorem qend_pair (s : ByteArray) (e : Nat) (h : e < s.size) : qend true (s.data.toList.drop e) = (qend false (s.data.toList.drop (e + 1))).map (· + 1) := by
  have h' : e < s.data.toList.length := by simpa using h
  rw [List.drop_eq_getElem_cons h']; rfl
theorem qend_step (s : ByteArray) (e : Nat) (h : e < s.size) : qend false (s.data.toList.drop e) = if s[e].toNat = 34 then some 1 else (qend (s[e].toNat == 92) (s.data.toList.drop (e + 1))).map (· + 1) := by
  have h' : e < s.data.toList.length := by simpa using h
  rw [List.drop_eq_getElem_cons h']; rfl
theorem map_next (x : Option Nat) (e : Nat) : (x.map (· + 1)).map (e + ·) = x.map (e + 1 + ·) := by
  cases x with
  | none => rfl
  | some k => simp; omega

set_option maxRecDepth 100000 in
set_option maxHeartbeats 4000000 in
theorem quoted_any (s : ByteArray) (i : Nat) (w : World) (hs : s.size ≤ 16384) (hi : i ≤ s.size) :
    Calls Tryd.prog 19 #[.string s, .int .i64 i] w fun e w' => e = .returned (.tuple #[.int .i64 (((qend false (s.data.toList.drop i)).map (i + ·)).elim 0 fun _ => 6), .int .i64 (((qend false (s.data.toList.drop i)).map (i + ·)).elim 0 fun k => (k : Int))]) ∧ w' = w := by
  have hl : s.data.toList.length = s.size := by simp
  obtain ⟨R, eR⟩ : ∃ R, Hid ((qend false (s.data.toList.drop i)).map (i + ·) = R) := ⟨_, rfl⟩
  rw [eR.out]
  go_enter Tryd.func19, Tryd.ntmps19
  go_wp2
  refine wp_scope_from 0 (fun l a w' => w' = w ∧ ∃ (e : Nat) (u2 u3 u4 u5 u6 u7 u8 u9 u10 u11 u12 u13 u14 u15 u16 u17 u18 u19 u20 u21 u22 u23 u24 u25 u26 : Value), a = { tmps := #[.string s, .int .i64 (e : Nat), u2, u3, u4, u5, u6, u7, u8, u9, u10, u11, u12, u13, u14, u15, u16, u17, u18, u19, u20, u21, u22, u23, u24, u25, u26], defers := [] } ∧ e ≤ s.size ∧ ((l = 0 ∧ Hid ((qend false (s.data.toList.drop e)).map (e + ·) = R)) ∨ (l = 1 ∧ Hid ((qend true (s.data.toList.drop e)).map (e + ·) = R)))) (fun _ a _ => (s.size - intAt a 1).toNat) rfl ?_ ?_
  · exact ⟨rfl, i, _, _, _, _, _, _, _, _, _, _, _, _, _, _, _, _, _, _, _, _, _, _, _, _, _, rfl, hi, .inl ⟨rfl, eR⟩⟩
  · rintro l a w' ⟨rfl, e, u2, u3, u4, u5, u6, u7, u8, u9, u10, u11, u12, u13, u14, u15, u16, u17, u18, u19, u20, u21, u22, u23, u24, u25, u26, rfl, he, ⟨rfl, hR⟩ | ⟨rfl, hR⟩⟩
    · refine ⟨_, rfl, ?_⟩
      by_cases hn : e = s.size
      · have hn' : (e : Int) = s.size := by omega
        have hR' := hR.out
        rw [qend_nil _ _ _ (by omega)] at hR'
        simp at hR'
        subst hR'
        go_wp2
        simp only [Exit.jumps]
        refine bodyPost_ret (by simp [results, Tryd.results19, go_sem]; try rfl) rfl ?_
        exact ⟨rfl, rfl⟩
      · have hlt : e < s.size := by omega
        have hn' : ¬ (e : Int) = s.size := by omega
        have hR' := hR.out
        rw [qend_step s e hlt] at hR'
        clear hR
        by_cases h34 : s[e].toNat = 34
        · have h34' : ((s[e].toNat : Nat) : Int) = 34 := by omega
          rw [if_pos h34] at hR'
          simp at hR'
          subst hR'
          go_wp2
          simp only [Exit.jumps]
          refine bodyPost_ret (by simp [results, Tryd.results19, go_sem]; try rfl) rfl ?_
          exact ⟨rfl, rfl⟩
        · have h34' : ¬ ((s[e].toNat : Nat) : Int) = 34 := by omega
          rw [if_neg h34, map_next] at hR'
          by_cases h92 : s[e].toNat = 92
          · have h92' : ((s[e].toNat : Nat) : Int) = 92 := by omega
            rw [show (s[e].toNat == 92) = true by rw [h92]; rfl] at hR'
            go_wp2
            go_step3
            refine ⟨⟨rfl, e + 1, _, _, _, _, _, _, _, _, _, _, _, _, _, _, _, _, _, _, _, _, _, _, _, _, _, rfl, by omega, .inr ⟨rfl, hR'⟩⟩, ?_⟩
            simp [intAt]
            omega
          · have h92' : ¬ ((s[e].toNat : Nat) : Int) = 92 := by omega
            rw [show (s[e].toNat == 92) = false by simpa using h92] at hR'
            go_wp2
            go_step3
            refine ⟨⟨rfl, e + 1, _, _, _, _, _, _, _, _, _, _, _, _, _, _, _, _, _, _, _, _, _, _, _, _, _, rfl, by omega, .inl ⟨rfl, hR'⟩⟩, ?_⟩
            simp [intAt]
            omega
    · refine ⟨_, rfl, ?_⟩
      by_cases hn : e = s.size
      · have hn' : (e : Int) = s.size := by omega
        have hR' := hR.out
        rw [qend_nil _ _ _ (by omega)] at hR'
        simp at hR'
        subst hR'
        go_wp2
        simp only [Exit.jumps]
        refine bodyPost_ret (by simp [results, Tryd.results19, go_sem]; try rfl) rfl ?_
        exact ⟨rfl, rfl⟩
      · have hlt : e < s.size := by omega
        have hn' : ¬ (e : Int) = s.size := by omega
        have hR' := hR.out
        rw [qend_pair s e hlt, map_next] at hR'
        clear hR
        go_wp2
        go_step3
        refine ⟨⟨rfl, e + 1, _, _, _, _, _, _, _, _, _, _, _, _, _, _, _, _, _, _, _, _, _, _, _, _, _, rfl, by omega, .inl ⟨rfl, hR'⟩⟩, ?_⟩
        simp [intAt]
        omega
end Go.Proofs.YtmegombglkcccaaDoor
