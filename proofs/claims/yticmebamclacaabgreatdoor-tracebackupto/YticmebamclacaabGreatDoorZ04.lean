/- The document's Quoted: a string's text. -/
import Derived.Test.YticmebamclacaabGreatDoorZ03
import Derived.OwnWalk
import Derived.Laws.OwnMore
import Derived.Deep.RegionLaw
import Derived.Test.YticmebamclacaabGreatDoorZ02
import Derived.Laws.IdiomStrings

namespace Go.Proofs.YticmebamclacaabGreatDoor
open Go.RowKit LX
set_option linter.unusedVariables false

theorem brk_nil (l : List UInt8) (e : Nat) (h : l.length ≤ e) : brk (l.drop e) = none := by
  rw [List.drop_eq_nil_of_le h]; rfl
theorem brk_step (s : ByteArray) (e : Nat) (h : e < s.size) : brk (s.data.toList.drop e) = if s[e].toNat = 93 then some 1 else (brk (s.data.toList.drop (e + 1))).map (· + 1) := by
  have h' : e < s.data.toList.length := by simpa using h
  rw [List.drop_eq_getElem_cons h']; rfl
/-- A frame of behind: the text, and the place that has been reached. -/
structure FrB (a : Act) (s : ByteArray) (e : Nat) : Prop where
  d : a.defers = []
  n : a.tmps.size = 100
  x0 : a.tmps[0]? = some (.string s)
  x5 : a.tmps[5]? = some (.int .i64 e)
theorem list_of (n : Nat) (l : List Value) (h : l.length = n) : l = (List.range n).map (fun i => l.getD i undef) := by
  subst h
  apply List.ext_getElem
  · simp
  · intro i h1 h2
    simp [List.getD, List.getElem?_eq_getElem h1]
theorem FrB.lit {a : Act} {s : ByteArray} {e : Nat} (h : FrB a s e) : ∃ u : Nat → Value, a = { tmps := #[.string s, u 1, u 2, u 3, u 4, .int .i64 (e : Nat), u 6, u 7, u 8, u 9, u 10, u 11, u 12, u 13, u 14, u 15, u 16, u 17, u 18, u 19, u 20, u 21, u 22, u 23, u 24, u 25, u 26, u 27, u 28, u 29, u 30, u 31, u 32, u 33, u 34, u 35, u 36, u 37, u 38, u 39, u 40, u 41, u 42, u 43, u 44, u 45, u 46, u 47, u 48, u 49, u 50, u 51, u 52, u 53, u 54, u 55, u 56, u 57, u 58, u 59, u 60, u 61, u 62, u 63, u 64, u 65, u 66, u 67, u 68, u 69, u 70, u 71, u 72, u 73, u 74, u 75, u 76, u 77, u 78, u 79, u 80, u 81, u 82, u 83, u 84, u 85, u 86, u 87, u 88, u 89, u 90, u 91, u 92, u 93, u 94, u 95, u 96, u 97, u 98, u 99], defers := [] } := by
  obtain ⟨t, d⟩ := a
  obtain ⟨h1, h2, h3, h4⟩ := h
  dsimp only at h1 h2 h3 h4
  subst h1
  obtain ⟨l⟩ := t
  have h2' : l.length = 100 := by simpa using h2
  have hl := list_of 100 l h2'
  have e0 : l.getD 0 undef = .string s := by have : l[0]? = some (Value.string s) := by simpa using h3
                                             simp [List.getD, this]
  have e5 : l.getD 5 undef = .int .i64 e := by have : l[5]? = some (Value.int .i64 e) := by simpa using h4
                                               simp [List.getD, this]
  refine ⟨fun i => l.getD i undef, ?_⟩
  rw [← e0, ← e5]
  congr 1
  exact congrArg Array.mk hl
theorem drop_at (s : ByteArray) (i : Nat) (h : i < s.size) : s.data.toList.drop i = s[i] :: s.data.toList.drop (i + 1) := by
  have h' : i < s.data.toList.length := by simpa using h
  rw [List.drop_eq_getElem_cons h']; rfl
set_option maxRecDepth 100000 in
set_option maxHeartbeats 4000000 in
theorem behind_40 (s : ByteArray) (i : Nat) (w : World) (hs : s.size ≤ 16384) (hi : i < s.size) (h : s[i].toNat = 40) :
    Calls Tryz.prog 77 #[.string s, .int .i64 i] w fun e w' => e = .returned (.tuple #[.int .i64 1, .int .i64 ((i + 1 : Nat) : Int)]) ∧ w' = w := by
  have hl : s.data.toList.length = s.size := by simp
  have h40' : ((s[i].toNat : Nat) : Int) = 40 := by omega
  go_enter Tryz.func77, Tryz.ntmps77
  go_wp2
  refine wp_scope_gotos (fun _ _ _ => False) (fun _ _ _ => 0) ?_ ?_
  · intro l a w h; exact h.elim
  · intro _
    go_wp2
    simp only [Exit.jumps]
    refine bodyPost_ret (by simp [results, Tryz.results77, go_sem]; try rfl) rfl ?_
    exact ⟨rfl, rfl⟩
set_option maxRecDepth 100000 in
set_option maxHeartbeats 4000000 in
theorem behind_41 (s : ByteArray) (i : Nat) (w : World) (hs : s.size ≤ 16384) (hi : i < s.size) (h : s[i].toNat = 41) :
    Calls Tryz.prog 77 #[.string s, .int .i64 i] w fun e w' => e = .returned (.tuple #[.int .i64 2, .int .i64 ((i + 1 : Nat) : Int)]) ∧ w' = w := by
  have hl : s.data.toList.length = s.size := by simp
  have h41' : ((s[i].toNat : Nat) : Int) = 41 := by omega
  have n40 : ¬ ((s[i].toNat : Nat) : Int) = 40 := by omega
  go_enter Tryz.func77, Tryz.ntmps77
  go_wp2
  refine wp_scope_gotos (fun _ _ _ => False) (fun _ _ _ => 0) ?_ ?_
  · intro l a w h; exact h.elim
  · intro _
    go_wp2
    simp only [Exit.jumps]
    refine bodyPost_ret (by simp [results, Tryz.results77, go_sem]; try rfl) rfl ?_
    exact ⟨rfl, rfl⟩
set_option maxRecDepth 100000 in
set_option maxHeartbeats 4000000 in
theorem behind_dig (s : ByteArray) (i : Nat) (w : World) (hs : s.size ≤ 16384) (hi : i < s.size) (hA : lowN s[i].toNat = false) (hD : digN s[i].toNat = true) :
    Calls Tryz.prog 77 #[.string s, .int .i64 i] w fun e w' => e = .returned (.tuple #[.int .i64 6, .int .i64 ((i + 1 + numLen (s.data.toList.drop (i + 1)) : Nat) : Int)]) ∧ w' = w := by
  have hl : s.data.toList.length = s.size := by simp
  have hDD : 48 ≤ s[i].toNat ∧ s[i].toNat ≤ 57 := by simpa [digN] using hD
  have n40 : ¬ ((s[i].toNat : Nat) : Int) = 40 := by omega
  have n41 : ¬ ((s[i].toNat : Nat) : Int) = 41 := by omega
  have A : Hid (∀ (v : Int) (W : World), v = (s[i].toNat : Int) → Calls Tryz.prog 93 #[.int .u8 v] W fun e w' => e = .returned (.bool false) ∧ w' = W) := fun v W h => by
    rw [h]; have q := letter_any s[i].toNat W s[i].toNat_lt; rw [hA] at q; exact q
  have D : Hid (∀ (v : Int) (W : World), v = (s[i].toNat : Int) → Calls Tryz.prog 94 #[.int .u8 v] W fun e w' => e = .returned (.bool true) ∧ w' = W) := fun v W h => by
    rw [h]; have q := digit_any s[i].toNat W s[i].toNat_lt; rw [hD] at q; exact q
  have NU : Hid (∀ W : World, Calls Tryz.prog 96 #[.string s, .int .i64 ((i + 1 : Nat) : Int)] W fun e w' => e = .returned (.int .i64 (i + 1 + numLen (s.data.toList.drop (i + 1)) : Nat)) ∧ w' = W) := fun W => numeral_any s (i + 1) W hs (by omega)
  go_enter Tryz.func77, Tryz.ntmps77
  go_wp2
  refine wp_scope_gotos (fun _ _ _ => False) (fun _ _ _ => 0) ?_ ?_
  · intro l a w h; exact h.elim
  · intro _
    go_wp2_with fail
    refine (A.out _ _ (by omega)).mono ?_
    rintro x w1 ⟨rfl, rfl⟩
    go_wp2_with fail
    refine (D.out _ _ (by omega)).mono ?_
    rintro x w1 ⟨rfl, rfl⟩
    go_wp2_with fail
    refine (NU.out _).mono ?_
    rintro x w1 ⟨rfl, rfl⟩
    go_wp2
    simp only [Exit.jumps]
    refine bodyPost_ret (by simp [results, Tryz.results77, go_sem]; try rfl) rfl ?_
    exact ⟨rfl, rfl⟩
set_option maxRecDepth 100000 in
set_option maxHeartbeats 4000000 in
theorem behind_neg (s : ByteArray) (i : Nat) (w : World) (hs : s.size ≤ 16384) (hi : i < s.size) (hA : lowN s[i].toNat = false) (hD : digN s[i].toNat = false) (h : s[i].toNat = 45) (hP : digN (hd (s.data.toList.drop (i + 1))) = true) :
    Calls Tryz.prog 77 #[.string s, .int .i64 i] w fun e w' => e = .returned (.tuple #[.int .i64 6, .int .i64 ((i + 1 + numLen (s.data.toList.drop (i + 1)) : Nat) : Int)]) ∧ w' = w := by
  have hl : s.data.toList.length = s.size := by simp
  have h45' : ((s[i].toNat : Nat) : Int) = 45 := by omega
  have n40 : ¬ ((s[i].toNat : Nat) : Int) = 40 := by omega
  have n41 : ¬ ((s[i].toNat : Nat) : Int) = 41 := by omega
  have A : Hid (∀ (v : Int) (W : World), v = (s[i].toNat : Int) → Calls Tryz.prog 93 #[.int .u8 v] W fun e w' => e = .returned (.bool false) ∧ w' = W) := fun v W h => by
    rw [h]; have q := letter_any s[i].toNat W s[i].toNat_lt; rw [hA] at q; exact q
  have D : Hid (∀ (v : Int) (W : World), v = (s[i].toNat : Int) → Calls Tryz.prog 94 #[.int .u8 v] W fun e w' => e = .returned (.bool false) ∧ w' = W) := fun v W h => by
    rw [h]; have q := digit_any s[i].toNat W s[i].toNat_lt; rw [hD] at q; exact q
  have PK : Hid (∀ (e : Nat) (W : World), Calls Tryz.prog 95 #[.string s, .int .i64 e] W fun x w' => x = .returned (.int .u8 (hd (s.data.toList.drop e))) ∧ w' = W) := fun e W => peek_any s e W
  have DP : Hid (∀ (v : Int) (W : World), v = (hd (s.data.toList.drop (i + 1)) : Int) → Calls Tryz.prog 94 #[.int .u8 v] W fun x w' => x = .returned (.bool true) ∧ w' = W) := fun v W h => by
    rw [h]; have q := digit_any _ W (hd_lt (s.data.toList.drop (i + 1))); rw [hP] at q; exact q
  have NU : Hid (∀ W : World, Calls Tryz.prog 96 #[.string s, .int .i64 ((i + 1 : Nat) : Int)] W fun e w' => e = .returned (.int .i64 (i + 1 + numLen (s.data.toList.drop (i + 1)) : Nat)) ∧ w' = W) := fun W => numeral_any s (i + 1) W hs (by omega)
  go_enter Tryz.func77, Tryz.ntmps77
  go_wp2
  refine wp_scope_gotos (fun _ _ _ => False) (fun _ _ _ => 0) ?_ ?_
  · intro l a w h; exact h.elim
  · intro _
    go_wp2_with fail
    refine (A.out _ _ (by omega)).mono ?_
    rintro x w1 ⟨rfl, rfl⟩
    go_wp2_with fail
    refine (D.out _ _ (by omega)).mono ?_
    rintro x w1 ⟨rfl, rfl⟩
    go_wp2_with fail
    refine (PK.out (i + 1) _).mono ?_
    rintro x w1 ⟨rfl, rfl⟩
    go_wp2_with fail
    refine (DP.out _ _ (by omega)).mono ?_
    rintro x w1 ⟨rfl, rfl⟩
    go_wp2_with fail
    refine (NU.out _).mono ?_
    rintro x w1 ⟨rfl, rfl⟩
    go_wp2
    simp only [Exit.jumps]
    refine bodyPost_ret (by simp [results, Tryz.results77, go_sem]; try rfl) rfl ?_
    exact ⟨rfl, rfl⟩
set_option maxRecDepth 100000 in
set_option maxHeartbeats 4000000 in
theorem behind_le (s : ByteArray) (i : Nat) (w : World) (hs : s.size ≤ 16384) (hi : i < s.size) (hA : lowN s[i].toNat = false) (hD : digN s[i].toNat = false) (h : s[i].toNat = 60) (hH : hd (s.data.toList.drop (i + 1)) = 61) :
    Calls Tryz.prog 77 #[.string s, .int .i64 i] w fun e w' => e = .returned (.tuple #[.int .i64 4, .int .i64 ((i + 2 : Nat) : Int)]) ∧ w' = w := by
  have hl : s.data.toList.length = s.size := by simp
  have h60' : ((s[i].toNat : Nat) : Int) = 60 := by omega
  have n40 : ¬ ((s[i].toNat : Nat) : Int) = 40 := by omega
  have n41 : ¬ ((s[i].toNat : Nat) : Int) = 41 := by omega
  have n45 : ¬ ((s[i].toNat : Nat) : Int) = 45 := by omega
  have hH' : ((hd (s.data.toList.drop (i + 1)) : Nat) : Int) = 61 := by omega
  have A : Hid (∀ (v : Int) (W : World), v = (s[i].toNat : Int) → Calls Tryz.prog 93 #[.int .u8 v] W fun e w' => e = .returned (.bool false) ∧ w' = W) := fun v W h => by
    rw [h]; have q := letter_any s[i].toNat W s[i].toNat_lt; rw [hA] at q; exact q
  have D : Hid (∀ (v : Int) (W : World), v = (s[i].toNat : Int) → Calls Tryz.prog 94 #[.int .u8 v] W fun e w' => e = .returned (.bool false) ∧ w' = W) := fun v W h => by
    rw [h]; have q := digit_any s[i].toNat W s[i].toNat_lt; rw [hD] at q; exact q
  have PK : Hid (∀ (e : Nat) (W : World), Calls Tryz.prog 95 #[.string s, .int .i64 e] W fun x w' => x = .returned (.int .u8 (hd (s.data.toList.drop e))) ∧ w' = W) := fun e W => peek_any s e W
  go_enter Tryz.func77, Tryz.ntmps77
  go_wp2
  refine wp_scope_gotos (fun _ _ _ => False) (fun _ _ _ => 0) ?_ ?_
  · intro l a w h; exact h.elim
  · intro _
    go_wp2_with fail
    refine (A.out _ _ (by omega)).mono ?_
    rintro x w1 ⟨rfl, rfl⟩
    go_wp2_with fail
    refine (D.out _ _ (by omega)).mono ?_
    rintro x w1 ⟨rfl, rfl⟩
    go_wp2_with fail
    refine (PK.out (i + 1) _).mono ?_
    rintro x w1 ⟨rfl, rfl⟩
    go_wp2
    simp only [Exit.jumps]
    refine bodyPost_ret (by simp [results, Tryz.results77, go_sem]; try rfl) rfl ?_
    exact ⟨rfl, rfl⟩
set_option maxRecDepth 100000 in
set_option maxHeartbeats 4000000 in
theorem behind_61 (s : ByteArray) (i : Nat) (w : World) (hs : s.size ≤ 16384) (hi : i < s.size) (hA : lowN s[i].toNat = false) (hD : digN s[i].toNat = false) (h : s[i].toNat = 61) :
    Calls Tryz.prog 77 #[.string s, .int .i64 i] w fun e w' => e = .returned (.tuple #[.int .i64 4, .int .i64 ((i + 1 : Nat) : Int)]) ∧ w' = w := by
  have hl : s.data.toList.length = s.size := by simp
  have h61' : ((s[i].toNat : Nat) : Int) = 61 := by omega
  have n40 : ¬ ((s[i].toNat : Nat) : Int) = 40 := by omega
  have n41 : ¬ ((s[i].toNat : Nat) : Int) = 41 := by omega
  have n45 : ¬ ((s[i].toNat : Nat) : Int) = 45 := by omega
  have n60 : ¬ ((s[i].toNat : Nat) : Int) = 60 := by omega
  have n43 : ¬ ((s[i].toNat : Nat) : Int) = 43 := by omega
  have n42 : ¬ ((s[i].toNat : Nat) : Int) = 42 := by omega
  have A : Hid (∀ (v : Int) (W : World), v = (s[i].toNat : Int) → Calls Tryz.prog 93 #[.int .u8 v] W fun e w' => e = .returned (.bool false) ∧ w' = W) := fun v W h => by
    rw [h]; have q := letter_any s[i].toNat W s[i].toNat_lt; rw [hA] at q; exact q
  have D : Hid (∀ (v : Int) (W : World), v = (s[i].toNat : Int) → Calls Tryz.prog 94 #[.int .u8 v] W fun e w' => e = .returned (.bool false) ∧ w' = W) := fun v W h => by
    rw [h]; have q := digit_any s[i].toNat W s[i].toNat_lt; rw [hD] at q; exact q
  go_enter Tryz.func77, Tryz.ntmps77
  go_wp2
  refine wp_scope_gotos (fun _ _ _ => False) (fun _ _ _ => 0) ?_ ?_
  · intro l a w h; exact h.elim
  · intro _
    go_wp2_with fail
    refine (A.out _ _ (by omega)).mono ?_
    rintro x w1 ⟨rfl, rfl⟩
    go_wp2_with fail
    refine (D.out _ _ (by omega)).mono ?_
    rintro x w1 ⟨rfl, rfl⟩
    go_wp2
    simp only [Exit.jumps]
    refine bodyPost_ret (by simp [results, Tryz.results77, go_sem]; try rfl) rfl ?_
    exact ⟨rfl, rfl⟩
set_option maxRecDepth 100000 in
set_option maxHeartbeats 4000000 in
theorem behind_43 (s : ByteArray) (i : Nat) (w : World) (hs : s.size ≤ 16384) (hi : i < s.size) (hA : lowN s[i].toNat = false) (hD : digN s[i].toNat = false) (h : s[i].toNat = 43) :
    Calls Tryz.prog 77 #[.string s, .int .i64 i] w fun e w' => e = .returned (.tuple #[.int .i64 4, .int .i64 ((i + 1 : Nat) : Int)]) ∧ w' = w := by
  have hl : s.data.toList.length = s.size := by simp
  have h43' : ((s[i].toNat : Nat) : Int) = 43 := by omega
  have n40 : ¬ ((s[i].toNat : Nat) : Int) = 40 := by omega
  have n41 : ¬ ((s[i].toNat : Nat) : Int) = 41 := by omega
  have n45 : ¬ ((s[i].toNat : Nat) : Int) = 45 := by omega
  have n60 : ¬ ((s[i].toNat : Nat) : Int) = 60 := by omega
  have n61 : ¬ ((s[i].toNat : Nat) : Int) = 61 := by omega
  have n42 : ¬ ((s[i].toNat : Nat) : Int) = 42 := by omega
  have A : Hid (∀ (v : Int) (W : World), v = (s[i].toNat : Int) → Calls Tryz.prog 93 #[.int .u8 v] W fun e w' => e = .returned (.bool false) ∧ w' = W) := fun v W h => by
    rw [h]; have q := letter_any s[i].toNat W s[i].toNat_lt; rw [hA] at q; exact q
  have D : Hid (∀ (v : Int) (W : World), v = (s[i].toNat : Int) → Calls Tryz.prog 94 #[.int .u8 v] W fun e w' => e = .returned (.bool false) ∧ w' = W) := fun v W h => by
    rw [h]; have q := digit_any s[i].toNat W s[i].toNat_lt; rw [hD] at q; exact q
  go_enter Tryz.func77, Tryz.ntmps77
  go_wp2
  refine wp_scope_gotos (fun _ _ _ => False) (fun _ _ _ => 0) ?_ ?_
  · intro l a w h; exact h.elim
  · intro _
    go_wp2_with fail
    refine (A.out _ _ (by omega)).mono ?_
    rintro x w1 ⟨rfl, rfl⟩
    go_wp2_with fail
    refine (D.out _ _ (by omega)).mono ?_
    rintro x w1 ⟨rfl, rfl⟩
    go_wp2
    simp only [Exit.jumps]
    refine bodyPost_ret (by simp [results, Tryz.results77, go_sem]; try rfl) rfl ?_
    exact ⟨rfl, rfl⟩
set_option maxRecDepth 100000 in
set_option maxHeartbeats 4000000 in
theorem behind_42 (s : ByteArray) (i : Nat) (w : World) (hs : s.size ≤ 16384) (hi : i < s.size) (hA : lowN s[i].toNat = false) (hD : digN s[i].toNat = false) (h : s[i].toNat = 42) :
    Calls Tryz.prog 77 #[.string s, .int .i64 i] w fun e w' => e = .returned (.tuple #[.int .i64 4, .int .i64 ((i + 1 : Nat) : Int)]) ∧ w' = w := by
  have hl : s.data.toList.length = s.size := by simp
  have h42' : ((s[i].toNat : Nat) : Int) = 42 := by omega
  have n40 : ¬ ((s[i].toNat : Nat) : Int) = 40 := by omega
  have n41 : ¬ ((s[i].toNat : Nat) : Int) = 41 := by omega
  have n45 : ¬ ((s[i].toNat : Nat) : Int) = 45 := by omega
  have n60 : ¬ ((s[i].toNat : Nat) : Int) = 60 := by omega
  have n61 : ¬ ((s[i].toNat : Nat) : Int) = 61 := by omega
  have n43 : ¬ ((s[i].toNat : Nat) : Int) = 43 := by omega
  have A : Hid (∀ (v : Int) (W : World), v = (s[i].toNat : Int) → Calls Tryz.prog 93 #[.int .u8 v] W fun e w' => e = .returned (.bool false) ∧ w' = W) := fun v W h => by
    rw [h]; have q := letter_any s[i].toNat W s[i].toNat_lt; rw [hA] at q; exact q
  have D : Hid (∀ (v : Int) (W : World), v = (s[i].toNat : Int) → Calls Tryz.prog 94 #[.int .u8 v] W fun e w' => e = .returned (.bool false) ∧ w' = W) := fun v W h => by
    rw [h]; have q := digit_any s[i].toNat W s[i].toNat_lt; rw [hD] at q; exact q
  go_enter Tryz.func77, Tryz.ntmps77
  go_wp2
  refine wp_scope_gotos (fun _ _ _ => False) (fun _ _ _ => 0) ?_ ?_
  · intro l a w h; exact h.elim
  · intro _
    go_wp2_with fail
    refine (A.out _ _ (by omega)).mono ?_
    rintro x w1 ⟨rfl, rfl⟩
    go_wp2_with fail
    refine (D.out _ _ (by omega)).mono ?_
    rintro x w1 ⟨rfl, rfl⟩
    go_wp2
    simp only [Exit.jumps]
    refine bodyPost_ret (by simp [results, Tryz.results77, go_sem]; try rfl) rfl ?_
    exact ⟨rfl, rfl⟩
set_option maxRecDepth 100000 in
set_option maxHeartbeats 4000000 in
theorem behind_lt (s : ByteArray) (i : Nat) (w : World) (hs : s.size ≤ 16384) (hi : i < s.size) (hA : lowN s[i].toNat = false) (hD : digN s[i].toNat = false) (h : s[i].toNat = 60) (hH : ¬ hd (s.data.toList.drop (i + 1)) = 61) :
    Calls Tryz.prog 77 #[.string s, .int .i64 i] w fun e w' => e = .returned (.tuple #[.int .i64 4, .int .i64 ((i + 1 : Nat) : Int)]) ∧ w' = w := by
  have hl : s.data.toList.length = s.size := by simp
  have h60' : ((s[i].toNat : Nat) : Int) = 60 := by omega
  have n40 : ¬ ((s[i].toNat : Nat) : Int) = 40 := by omega
  have n41 : ¬ ((s[i].toNat : Nat) : Int) = 41 := by omega
  have n45 : ¬ ((s[i].toNat : Nat) : Int) = 45 := by omega
  have n61 : ¬ ((s[i].toNat : Nat) : Int) = 61 := by omega
  have n43 : ¬ ((s[i].toNat : Nat) : Int) = 43 := by omega
  have n42 : ¬ ((s[i].toNat : Nat) : Int) = 42 := by omega
  have hH' : ¬ ((hd (s.data.toList.drop (i + 1)) : Nat) : Int) = 61 := by omega
  have A : Hid (∀ (v : Int) (W : World), v = (s[i].toNat : Int) → Calls Tryz.prog 93 #[.int .u8 v] W fun e w' => e = .returned (.bool false) ∧ w' = W) := fun v W h => by
    rw [h]; have q := letter_any s[i].toNat W s[i].toNat_lt; rw [hA] at q; exact q
  have D : Hid (∀ (v : Int) (W : World), v = (s[i].toNat : Int) → Calls Tryz.prog 94 #[.int .u8 v] W fun e w' => e = .returned (.bool false) ∧ w' = W) := fun v W h => by
    rw [h]; have q := digit_any s[i].toNat W s[i].toNat_lt; rw [hD] at q; exact q
  have PK : Hid (∀ (e : Nat) (W : World), Calls Tryz.prog 95 #[.string s, .int .i64 e] W fun x w' => x = .returned (.int .u8 (hd (s.data.toList.drop e))) ∧ w' = W) := fun e W => peek_any s e W
  go_enter Tryz.func77, Tryz.ntmps77
  go_wp2
  refine wp_scope_gotos (fun _ _ _ => False) (fun _ _ _ => 0) ?_ ?_
  · intro l a w h; exact h.elim
  · intro _
    go_wp2_with fail
    refine (A.out _ _ (by omega)).mono ?_
    rintro x w1 ⟨rfl, rfl⟩
    go_wp2_with fail
    refine (D.out _ _ (by omega)).mono ?_
    rintro x w1 ⟨rfl, rfl⟩
    go_wp2_with fail
    refine (PK.out (i + 1) _).mono ?_
    rintro x w1 ⟨rfl, rfl⟩
    go_wp2
    simp only [Exit.jumps]
    refine bodyPost_ret (by simp [results, Tryz.results77, go_sem]; try rfl) rfl ?_
    exact ⟨rfl, rfl⟩
set_option maxRecDepth 100000 in
set_option maxHeartbeats 4000000 in
theorem behind_45 (s : ByteArray) (i : Nat) (w : World) (hs : s.size ≤ 16384) (hi : i < s.size) (hA : lowN s[i].toNat = false) (hD : digN s[i].toNat = false) (h : s[i].toNat = 45) (hP : digN (hd (s.data.toList.drop (i + 1))) = false) :
    Calls Tryz.prog 77 #[.string s, .int .i64 i] w fun e w' => e = .returned (.tuple #[.int .i64 4, .int .i64 ((i + 1 : Nat) : Int)]) ∧ w' = w := by
  have hl : s.data.toList.length = s.size := by simp
  have h45' : ((s[i].toNat : Nat) : Int) = 45 := by omega
  have n40 : ¬ ((s[i].toNat : Nat) : Int) = 40 := by omega
  have n41 : ¬ ((s[i].toNat : Nat) : Int) = 41 := by omega
  have n60 : ¬ ((s[i].toNat : Nat) : Int) = 60 := by omega
  have n61 : ¬ ((s[i].toNat : Nat) : Int) = 61 := by omega
  have n43 : ¬ ((s[i].toNat : Nat) : Int) = 43 := by omega
  have n42 : ¬ ((s[i].toNat : Nat) : Int) = 42 := by omega
  have A : Hid (∀ (v : Int) (W : World), v = (s[i].toNat : Int) → Calls Tryz.prog 93 #[.int .u8 v] W fun e w' => e = .returned (.bool false) ∧ w' = W) := fun v W h => by
    rw [h]; have q := letter_any s[i].toNat W s[i].toNat_lt; rw [hA] at q; exact q
  have D : Hid (∀ (v : Int) (W : World), v = (s[i].toNat : Int) → Calls Tryz.prog 94 #[.int .u8 v] W fun e w' => e = .returned (.bool false) ∧ w' = W) := fun v W h => by
    rw [h]; have q := digit_any s[i].toNat W s[i].toNat_lt; rw [hD] at q; exact q
  have PK : Hid (∀ (e : Nat) (W : World), Calls Tryz.prog 95 #[.string s, .int .i64 e] W fun x w' => x = .returned (.int .u8 (hd (s.data.toList.drop e))) ∧ w' = W) := fun e W => peek_any s e W
  have DP : Hid (∀ (v : Int) (W : World), v = (hd (s.data.toList.drop (i + 1)) : Int) → Calls Tryz.prog 94 #[.int .u8 v] W fun x w' => x = .returned (.bool false) ∧ w' = W) := fun v W h => by
    rw [h]; have q := digit_any _ W (hd_lt (s.data.toList.drop (i + 1))); rw [hP] at q; exact q
  go_enter Tryz.func77, Tryz.ntmps77
  go_wp2
  refine wp_scope_gotos (fun _ _ _ => False) (fun _ _ _ => 0) ?_ ?_
  · intro l a w h; exact h.elim
  · intro _
    go_wp2_with fail
    refine (A.out _ _ (by omega)).mono ?_
    rintro x w1 ⟨rfl, rfl⟩
    go_wp2_with fail
    refine (D.out _ _ (by omega)).mono ?_
    rintro x w1 ⟨rfl, rfl⟩
    go_wp2_with fail
    refine (PK.out (i + 1) _).mono ?_
    rintro x w1 ⟨rfl, rfl⟩
    go_wp2_with fail
    refine (DP.out _ _ (by omega)).mono ?_
    rintro x w1 ⟨rfl, rfl⟩
    go_wp2
    simp only [Exit.jumps]
    refine bodyPost_ret (by simp [results, Tryz.results77, go_sem]; try rfl) rfl ?_
    exact ⟨rfl, rfl⟩
set_option maxRecDepth 100000 in
set_option maxHeartbeats 4000000 in
theorem behind_34 (s : ByteArray) (i : Nat) (w : World) (hs : s.size ≤ 16384) (hi : i < s.size) (hA : lowN s[i].toNat = false) (hD : digN s[i].toNat = false) (h : s[i].toNat = 34) :
    Calls Tryz.prog 77 #[.string s, .int .i64 i] w fun e w' => e = .returned (.tuple #[.int .i64 (((qend false (s.data.toList.drop (i + 1))).map (i + 1 + ·)).elim 0 fun _ => 6), .int .i64 (((qend false (s.data.toList.drop (i + 1))).map (i + 1 + ·)).elim 0 fun k => (k : Int))]) ∧ w' = w := by
  have hl : s.data.toList.length = s.size := by simp
  have h34' : ((s[i].toNat : Nat) : Int) = 34 := by omega
  have n40 : ¬ ((s[i].toNat : Nat) : Int) = 40 := by omega
  have n41 : ¬ ((s[i].toNat : Nat) : Int) = 41 := by omega
  have n45 : ¬ ((s[i].toNat : Nat) : Int) = 45 := by omega
  have n60 : ¬ ((s[i].toNat : Nat) : Int) = 60 := by omega
  have n61 : ¬ ((s[i].toNat : Nat) : Int) = 61 := by omega
  have n43 : ¬ ((s[i].toNat : Nat) : Int) = 43 := by omega
  have n42 : ¬ ((s[i].toNat : Nat) : Int) = 42 := by omega
  have n91 : ¬ ((s[i].toNat : Nat) : Int) = 91 := by omega
  have A : Hid (∀ (v : Int) (W : World), v = (s[i].toNat : Int) → Calls Tryz.prog 93 #[.int .u8 v] W fun e w' => e = .returned (.bool false) ∧ w' = W) := fun v W h => by
    rw [h]; have q := letter_any s[i].toNat W s[i].toNat_lt; rw [hA] at q; exact q
  have D : Hid (∀ (v : Int) (W : World), v = (s[i].toNat : Int) → Calls Tryz.prog 94 #[.int .u8 v] W fun e w' => e = .returned (.bool false) ∧ w' = W) := fun v W h => by
    rw [h]; have q := digit_any s[i].toNat W s[i].toNat_lt; rw [hD] at q; exact q
  obtain ⟨R, eR⟩ : ∃ R, Hid ((qend false (s.data.toList.drop (i + 1))).map (i + 1 + ·) = R) := ⟨_, rfl⟩
  have QU : Hid (∀ W : World, Calls Tryz.prog 97 #[.string s, .int .i64 ((i + 1 : Nat) : Int)] W fun e w' => e = .returned (.tuple #[.int .i64 (R.elim 0 fun _ => 6), .int .i64 (R.elim 0 fun k => (k : Int))]) ∧ w' = W) := fun W => by have q := quoted_any s (i + 1) W hs (by omega); rw [eR.out] at q; exact q
  rw [eR.out]
  obtain ⟨K, eK⟩ : ∃ K : Int, Hid ((R.elim 0 fun _ => 6) = K) := ⟨_, rfl⟩
  obtain ⟨E, eE⟩ : ∃ E : Int, Hid ((R.elim 0 fun k => (k : Int)) = E) := ⟨_, rfl⟩
  rw [eK.out, eE.out] at QU ⊢
  go_enter Tryz.func77, Tryz.ntmps77
  go_wp2
  refine wp_scope_gotos (fun _ _ _ => False) (fun _ _ _ => 0) ?_ ?_
  · intro l a w h; exact h.elim
  · intro _
    go_wp2_with fail
    refine (A.out _ _ (by omega)).mono ?_
    rintro x w1 ⟨rfl, rfl⟩
    go_wp2_with fail
    refine (D.out _ _ (by omega)).mono ?_
    rintro x w1 ⟨rfl, rfl⟩
    go_wp2_with fail
    refine (QU.out _).mono ?_
    rintro x w1 ⟨rfl, rfl⟩
    go_wp2
    simp only [Exit.jumps]
    refine bodyPost_ret (by simp [results, Tryz.results77, go_sem]; try rfl) rfl ?_
    exact ⟨rfl, rfl⟩
set_option maxRecDepth 100000 in
set_option maxHeartbeats 4000000 in
theorem behind_no (s : ByteArray) (i : Nat) (w : World) (hs : s.size ≤ 16384) (hi : i < s.size) (hA : lowN s[i].toNat = false) (hD : digN s[i].toNat = false) (m40 : ¬ s[i].toNat = 40) (m41 : ¬ s[i].toNat = 41) (m45 : ¬ s[i].toNat = 45) (m60 : ¬ s[i].toNat = 60) (m61 : ¬ s[i].toNat = 61) (m43 : ¬ s[i].toNat = 43) (m42 : ¬ s[i].toNat = 42) (m91 : ¬ s[i].toNat = 91) (m34 : ¬ s[i].toNat = 34) (m64 : ¬ s[i].toNat = 64) :
    Calls Tryz.prog 77 #[.string s, .int .i64 i] w fun e w' => e = .returned (.tuple #[.int .i64 0, .int .i64 0]) ∧ w' = w := by
  have hl : s.data.toList.length = s.size := by simp
  have n40 : ¬ ((s[i].toNat : Nat) : Int) = 40 := by omega
  have n41 : ¬ ((s[i].toNat : Nat) : Int) = 41 := by omega
  have n45 : ¬ ((s[i].toNat : Nat) : Int) = 45 := by omega
  have n60 : ¬ ((s[i].toNat : Nat) : Int) = 60 := by omega
  have n61 : ¬ ((s[i].toNat : Nat) : Int) = 61 := by omega
  have n43 : ¬ ((s[i].toNat : Nat) : Int) = 43 := by omega
  have n42 : ¬ ((s[i].toNat : Nat) : Int) = 42 := by omega
  have n91 : ¬ ((s[i].toNat : Nat) : Int) = 91 := by omega
  have n34 : ¬ ((s[i].toNat : Nat) : Int) = 34 := by omega
  have n64 : ¬ ((s[i].toNat : Nat) : Int) = 64 := by omega
  have A : Hid (∀ (v : Int) (W : World), v = (s[i].toNat : Int) → Calls Tryz.prog 93 #[.int .u8 v] W fun e w' => e = .returned (.bool false) ∧ w' = W) := fun v W h => by
    rw [h]; have q := letter_any s[i].toNat W s[i].toNat_lt; rw [hA] at q; exact q
  have D : Hid (∀ (v : Int) (W : World), v = (s[i].toNat : Int) → Calls Tryz.prog 94 #[.int .u8 v] W fun e w' => e = .returned (.bool false) ∧ w' = W) := fun v W h => by
    rw [h]; have q := digit_any s[i].toNat W s[i].toNat_lt; rw [hD] at q; exact q
  go_enter Tryz.func77, Tryz.ntmps77
  go_wp2
  refine wp_scope_gotos (fun _ _ _ => False) (fun _ _ _ => 0) ?_ ?_
  · intro l a w h; exact h.elim
  · intro _
    go_wp2_with fail
    refine (A.out _ _ (by omega)).mono ?_
    rintro x w1 ⟨rfl, rfl⟩
    go_wp2_with fail
    refine (D.out _ _ (by omega)).mono ?_
    rintro x w1 ⟨rfl, rfl⟩
    go_wp2
    simp only [Exit.jumps]
    refine bodyPost_ret (by simp [results, Tryz.results77, go_sem]; try rfl) rfl ?_
    exact ⟨rfl, rfl⟩
set_option maxRecDepth 100000 in
set_option maxHeartbeats 4000000 in
theorem behind_word (s : ByteArray) (i : Nat) (w : World) (hs : s.size ≤ 16384) (hi : i < s.size) (hA : lowN s[i].toNat = true) :
    Calls Tryz.prog 77 #[.string s, .int .i64 i] w fun e w' => e = .returned (.tuple #[.int .i64 3, .int .i64 ((i + 1 + run inwN (s.data.toList.drop (i + 1)) : Nat) : Int)]) ∧ w' = w := by
  have hl : s.data.toList.length = s.size := by simp
  have hAA : 97 ≤ s[i].toNat ∧ s[i].toNat ≤ 122 := by simpa [lowN] using hA
  have n40 : ¬ ((s[i].toNat : Nat) : Int) = 40 := by omega
  have n41 : ¬ ((s[i].toNat : Nat) : Int) = 41 := by omega
  have A : Hid (∀ (v : Int) (W : World), v = (s[i].toNat : Int) → Calls Tryz.prog 93 #[.int .u8 v] W fun e w' => e = .returned (.bool true) ∧ w' = W) := fun v W h => by
    rw [h]; have q := letter_any s[i].toNat W s[i].toNat_lt; rw [hA] at q; exact q
  have PK : Hid (∀ (e : Nat) (W : World), Calls Tryz.prog 95 #[.string s, .int .i64 e] W fun x w' => x = .returned (.int .u8 (hd (s.data.toList.drop e))) ∧ w' = W) := fun e W => peek_any s e W
  have IW : Hid (∀ (e : Nat) (W : World), Calls Tryz.prog 98 #[.int .u8 (hd (s.data.toList.drop e))] W fun x w' => x = .returned (.bool (inwN (hd (s.data.toList.drop e)))) ∧ w' = W) := fun e W => inword_any _ W (hd_lt _)
  obtain ⟨R, eR⟩ : ∃ R, Hid (i + 1 + run inwN (s.data.toList.drop (i + 1)) = R) := ⟨_, rfl⟩
  rw [eR.out]
  go_enter Tryz.func77, Tryz.ntmps77
  go_wp2
  refine wp_scope_gotos (fun l a w' => w' = w ∧ ∃ e : Nat, FrB a s e ∧ e ≤ s.size ∧ l = 0 ∧ Hid (e + run inwN (s.data.toList.drop e) = R)) (fun _ a _ => (s.size - intAt a 5).toNat) ?_ ?_
  · rintro l a w' ⟨rfl, e, hF, he, rfl, hR⟩
    obtain ⟨u, rfl⟩ := hF.lit
    refine ⟨_, rfl, ?_⟩
    go_wp2_with fail
    refine (PK.out e _).mono ?_
    rintro x w1 ⟨rfl, rfl⟩
    go_wp2_with fail
    refine (IW.out e _).mono ?_
    rintro x w1 ⟨rfl, rfl⟩
    cases hd0 : inwN (hd (s.data.toList.drop e))
    · go_wp2
      have hr := run_no inwN hd0
      have hR' := hR.out
      have hRe : R = e := by omega
      subst hRe
      simp only [Exit.jumps]
      refine bodyPost_ret (by simp [results, Tryz.results77, go_sem]; try rfl) rfl ?_
      exact ⟨rfl, rfl⟩
    · obtain ⟨g1, g2⟩ := run_yes inwN rfl hd0
      rw [hl] at g1
      go_wp2
      go_step3
      have hR' := hR.out
      refine ⟨⟨rfl, e + 1, ⟨rfl, rfl, rfl, rfl⟩, by omega, rfl, (show _ = _ by omega)⟩, ?_⟩
      simp [intAt]
      omega
  · intro _
    go_wp2_with fail
    refine (A.out _ _ (by omega)).mono ?_
    rintro x w1 ⟨rfl, rfl⟩
    go_wp2
    go_step3
    exact ⟨rfl, i + 1, ⟨rfl, rfl, rfl, rfl⟩, by omega, rfl, eR⟩
set_option maxRecDepth 100000 in
set_option maxHeartbeats 4000000 in
theorem behind_time (s : ByteArray) (i : Nat) (w : World) (hs : s.size ≤ 16384) (hi : i < s.size) (hA : lowN s[i].toNat = false) (hD : digN s[i].toNat = false) (h : s[i].toNat = 64) :
    Calls Tryz.prog 77 #[.string s, .int .i64 i] w fun e w' => e = .returned (.tuple #[.int .i64 7, .int .i64 ((i + 1 + run digN (s.data.toList.drop (i + 1)) : Nat) : Int)]) ∧ w' = w := by
  have hl : s.data.toList.length = s.size := by simp
  have h64' : ((s[i].toNat : Nat) : Int) = 64 := by omega
  have n40 : ¬ ((s[i].toNat : Nat) : Int) = 40 := by omega
  have n41 : ¬ ((s[i].toNat : Nat) : Int) = 41 := by omega
  have n45 : ¬ ((s[i].toNat : Nat) : Int) = 45 := by omega
  have n60 : ¬ ((s[i].toNat : Nat) : Int) = 60 := by omega
  have n61 : ¬ ((s[i].toNat : Nat) : Int) = 61 := by omega
  have n43 : ¬ ((s[i].toNat : Nat) : Int) = 43 := by omega
  have n42 : ¬ ((s[i].toNat : Nat) : Int) = 42 := by omega
  have n91 : ¬ ((s[i].toNat : Nat) : Int) = 91 := by omega
  have n34 : ¬ ((s[i].toNat : Nat) : Int) = 34 := by omega
  have A : Hid (∀ (v : Int) (W : World), v = (s[i].toNat : Int) → Calls Tryz.prog 93 #[.int .u8 v] W fun e w' => e = .returned (.bool false) ∧ w' = W) := fun v W h => by
    rw [h]; have q := letter_any s[i].toNat W s[i].toNat_lt; rw [hA] at q; exact q
  have D : Hid (∀ (v : Int) (W : World), v = (s[i].toNat : Int) → Calls Tryz.prog 94 #[.int .u8 v] W fun e w' => e = .returned (.bool false) ∧ w' = W) := fun v W h => by
    rw [h]; have q := digit_any s[i].toNat W s[i].toNat_lt; rw [hD] at q; exact q
  have PK : Hid (∀ (e : Nat) (W : World), Calls Tryz.prog 95 #[.string s, .int .i64 e] W fun x w' => x = .returned (.int .u8 (hd (s.data.toList.drop e))) ∧ w' = W) := fun e W => peek_any s e W
  have DG : Hid (∀ (e : Nat) (W : World), Calls Tryz.prog 94 #[.int .u8 (hd (s.data.toList.drop e))] W fun x w' => x = .returned (.bool (digN (hd (s.data.toList.drop e)))) ∧ w' = W) := fun e W => digit_any _ W (hd_lt _)
  obtain ⟨R, eR⟩ : ∃ R, Hid (i + 1 + run digN (s.data.toList.drop (i + 1)) = R) := ⟨_, rfl⟩
  rw [eR.out]
  go_enter Tryz.func77, Tryz.ntmps77
  go_wp2
  refine wp_scope_gotos (fun l a w' => w' = w ∧ ∃ e : Nat, FrB a s e ∧ e ≤ s.size ∧ l = 2 ∧ Hid (e + run digN (s.data.toList.drop e) = R)) (fun _ a _ => (s.size - intAt a 5).toNat) ?_ ?_
  · rintro l a w' ⟨rfl, e, hF, he, rfl, hR⟩
    obtain ⟨u, rfl⟩ := hF.lit
    refine ⟨_, rfl, ?_⟩
    go_wp2_with fail
    refine (PK.out e _).mono ?_
    rintro x w1 ⟨rfl, rfl⟩
    go_wp2_with fail
    refine (DG.out e _).mono ?_
    rintro x w1 ⟨rfl, rfl⟩
    cases hd0 : digN (hd (s.data.toList.drop e))
    · go_wp2
      have hr := run_no digN hd0
      have hR' := hR.out
      have hRe : R = e := by omega
      subst hRe
      simp only [Exit.jumps]
      refine bodyPost_ret (by simp [results, Tryz.results77, go_sem]; try rfl) rfl ?_
      exact ⟨rfl, rfl⟩
    · obtain ⟨g1, g2⟩ := run_yes digN rfl hd0
      rw [hl] at g1
      go_wp2
      go_step3
      have hR' := hR.out
      refine ⟨⟨rfl, e + 1, ⟨rfl, rfl, rfl, rfl⟩, by omega, rfl, (show _ = _ by omega)⟩, ?_⟩
      simp [intAt]
      omega
  · intro _
    go_wp2_with fail
    refine (A.out _ _ (by omega)).mono ?_
    rintro x w1 ⟨rfl, rfl⟩
    go_wp2_with fail
    refine (D.out _ _ (by omega)).mono ?_
    rintro x w1 ⟨rfl, rfl⟩
    go_wp2
    go_step3
    exact ⟨rfl, i + 1, ⟨rfl, rfl, rfl, rfl⟩, by omega, rfl, eR⟩
set_option maxRecDepth 100000 in
set_option maxHeartbeats 4000000 in
theorem behind_91 (s : ByteArray) (i : Nat) (w : World) (hs : s.size ≤ 16384) (hi : i < s.size) (hA : lowN s[i].toNat = false) (hD : digN s[i].toNat = false) (h : s[i].toNat = 91) :
    Calls Tryz.prog 77 #[.string s, .int .i64 i] w fun e w' => e = .returned (.tuple #[.int .i64 (((brk (s.data.toList.drop (i + 1))).map (i + 1 + ·)).elim 0 fun _ => 5), .int .i64 (((brk (s.data.toList.drop (i + 1))).map (i + 1 + ·)).elim 0 fun k => (k : Int))]) ∧ w' = w := by
  have hl : s.data.toList.length = s.size := by simp
  have h91' : ((s[i].toNat : Nat) : Int) = 91 := by omega
  have n40 : ¬ ((s[i].toNat : Nat) : Int) = 40 := by omega
  have n41 : ¬ ((s[i].toNat : Nat) : Int) = 41 := by omega
  have n45 : ¬ ((s[i].toNat : Nat) : Int) = 45 := by omega
  have n60 : ¬ ((s[i].toNat : Nat) : Int) = 60 := by omega
  have n61 : ¬ ((s[i].toNat : Nat) : Int) = 61 := by omega
  have n43 : ¬ ((s[i].toNat : Nat) : Int) = 43 := by omega
  have n42 : ¬ ((s[i].toNat : Nat) : Int) = 42 := by omega
  have A : Hid (∀ (v : Int) (W : World), v = (s[i].toNat : Int) → Calls Tryz.prog 93 #[.int .u8 v] W fun e w' => e = .returned (.bool false) ∧ w' = W) := fun v W h => by
    rw [h]; have q := letter_any s[i].toNat W s[i].toNat_lt; rw [hA] at q; exact q
  have D : Hid (∀ (v : Int) (W : World), v = (s[i].toNat : Int) → Calls Tryz.prog 94 #[.int .u8 v] W fun e w' => e = .returned (.bool false) ∧ w' = W) := fun v W h => by
    rw [h]; have q := digit_any s[i].toNat W s[i].toNat_lt; rw [hD] at q; exact q
  obtain ⟨R, eR⟩ : ∃ R, Hid ((brk (s.data.toList.drop (i + 1))).map (i + 1 + ·) = R) := ⟨_, rfl⟩
  rw [eR.out]
  go_enter Tryz.func77, Tryz.ntmps77
  go_wp2
  refine wp_scope_gotos (fun l a w' => w' = w ∧ ∃ e : Nat, FrB a s e ∧ e ≤ s.size ∧ l = 1 ∧ Hid ((brk (s.data.toList.drop e)).map (e + ·) = R)) (fun _ a _ => (s.size - intAt a 5).toNat) ?_ ?_
  · rintro l a w' ⟨rfl, e, hF, he, rfl, hR⟩
    obtain ⟨u, rfl⟩ := hF.lit
    refine ⟨_, rfl, ?_⟩
    by_cases hn : e = s.size
    · have hn' : (e : Int) = s.size := by omega
      have hR' := hR.out
      rw [brk_nil _ _ (by omega)] at hR'
      simp at hR'
      subst hR'
      go_wp2
      simp only [Exit.jumps]
      refine bodyPost_ret (by simp [results, Tryz.results77, go_sem]; try rfl) rfl ?_
      exact ⟨rfl, rfl⟩
    · have hlt : e < s.size := by omega
      have hn' : ¬ (e : Int) = s.size := by omega
      have hR' := hR.out
      rw [brk_step s e hlt] at hR'
      clear hR
      by_cases h93 : s[e].toNat = 93
      · have h93' : ((s[e].toNat : Nat) : Int) = 93 := by omega
        rw [if_pos h93] at hR'
        simp at hR'
        subst hR'
        go_wp2
        simp only [Exit.jumps]
        refine bodyPost_ret (by simp [results, Tryz.results77, go_sem]; try rfl) rfl ?_
        exact ⟨rfl, rfl⟩
      · have h93' : ¬ ((s[e].toNat : Nat) : Int) = 93 := by omega
        rw [if_neg h93, map_next] at hR'
        go_wp2
        go_step3
        refine ⟨⟨rfl, e + 1, ⟨rfl, rfl, rfl, rfl⟩, by omega, rfl, hR'⟩, ?_⟩
        simp [intAt]
        omega
  · intro _
    go_wp2_with fail
    refine (A.out _ _ (by omega)).mono ?_
    rintro x w1 ⟨rfl, rfl⟩
    go_wp2_with fail
    refine (D.out _ _ (by omega)).mono ?_
    rintro x w1 ⟨rfl, rfl⟩
    go_wp2
    go_step3
    exact ⟨rfl, i + 1, ⟨rfl, rfl, rfl, rfl⟩, by omega, rfl, eR⟩
/-- behind at every place of a text. -/
theorem behind_any (s : ByteArray) (i : Nat) (w : World) (hs : s.size ≤ 16384) (hi : i < s.size) :
    Calls Tryz.prog 77 #[.string s, .int .i64 i] w fun e w' => e = .returned (.tuple #[.int .i64 ((beh (s.data.toList.drop i)).1 : Nat), .int .i64 ((if (beh (s.data.toList.drop i)).1 = 0 then 0 else i + (beh (s.data.toList.drop i)).2 : Nat) : Int)]) ∧ w' = w := by
  have hd0 := drop_at s i hi
  by_cases h1 : s[i].toNat = 40
  · have e : beh (s.data.toList.drop i) = (1, 1) := by rw [hd0, beh_cons, if_pos h1]
    rw [e]; exact behind_40 s i w hs hi h1
  by_cases h2 : s[i].toNat = 41
  · have e : beh (s.data.toList.drop i) = (2, 1) := by rw [hd0, beh_cons, if_neg h1, if_pos h2]
    rw [e]; exact behind_41 s i w hs hi h2
  cases hA : lowN s[i].toNat
  · have h3 : ¬ lowN s[i].toNat = true := by rw [hA]; simp
    cases hD : digN s[i].toNat
    · by_cases h45 : s[i].toNat = 45
      · cases hP : digN (hd (s.data.toList.drop (i + 1)))
        · have e : beh (s.data.toList.drop i) = (4, 1) := by rw [hd0, beh_cons, if_neg h1, if_neg h2, if_neg h3, if_neg (by rw [hD, hP]; simp), if_neg (by omega), if_pos (by omega)]
          rw [e]; exact behind_45 s i w hs hi hA hD h45 hP
        · have e : beh (s.data.toList.drop i) = (6, 1 + numLen (s.data.toList.drop (i + 1))) := by rw [hd0, beh_cons, if_neg h1, if_neg h2, if_neg h3, if_pos (by rw [hP, h45]; simp)]
          rw [e]; have q := behind_neg s i w hs hi hA hD h45 hP
          rw [Nat.add_assoc] at q; exact q
      · have h4 : ¬ (digN s[i].toNat || (s[i].toNat == 45 && digN (hd (s.data.toList.drop (i + 1))))) = true := by rw [hD]; simp [h45]
        by_cases h60 : s[i].toNat = 60
        · by_cases hH : hd (s.data.toList.drop (i + 1)) = 61
          · have e : beh (s.data.toList.drop i) = (4, 2) := by rw [hd0, beh_cons, if_neg h1, if_neg h2, if_neg h3, if_neg h4, if_pos ⟨h60, hH⟩]
            rw [e]; exact behind_le s i w hs hi hA hD h60 hH
          · have e : beh (s.data.toList.drop i) = (4, 1) := by rw [hd0, beh_cons, if_neg h1, if_neg h2, if_neg h3, if_neg h4, if_neg (fun x => hH x.2), if_pos (by omega)]
            rw [e]; exact behind_lt s i w hs hi hA hD h60 hH
        · have h5 : ¬ (s[i].toNat = 60 ∧ hd (s.data.toList.drop (i + 1)) = 61) := fun x => h60 x.1
          by_cases h61 : s[i].toNat = 61
          · have e : beh (s.data.toList.drop i) = (4, 1) := by rw [hd0, beh_cons, if_neg h1, if_neg h2, if_neg h3, if_neg h4, if_neg h5, if_pos (by omega)]
            rw [e]; exact behind_61 s i w hs hi hA hD h61
          by_cases h43 : s[i].toNat = 43
          · have e : beh (s.data.toList.drop i) = (4, 1) := by rw [hd0, beh_cons, if_neg h1, if_neg h2, if_neg h3, if_neg h4, if_neg h5, if_pos (by omega)]
            rw [e]; exact behind_43 s i w hs hi hA hD h43
          by_cases h42 : s[i].toNat = 42
          · have e : beh (s.data.toList.drop i) = (4, 1) := by rw [hd0, beh_cons, if_neg h1, if_neg h2, if_neg h3, if_neg h4, if_neg h5, if_pos (by omega)]
            rw [e]; exact behind_42 s i w hs hi hA hD h42
          have h6 : ¬ (s[i].toNat = 61 ∨ s[i].toNat = 43 ∨ s[i].toNat = 42 ∨ s[i].toNat = 60 ∨ s[i].toNat = 45) := by omega
          by_cases h91 : s[i].toNat = 91
          · have q := behind_91 s i w hs hi hA hD h91
            cases hb : brk (s.data.toList.drop (i + 1)) with
            | none =>
              have e : beh (s.data.toList.drop i) = (0, 0) := by rw [hd0, beh_cons, if_neg h1, if_neg h2, if_neg h3, if_neg h4, if_neg h5, if_neg h6, if_pos h91, hb]; rfl
              rw [hb] at q; rw [e]; exact q
            | some k =>
              have e : beh (s.data.toList.drop i) = (5, 1 + k) := by rw [hd0, beh_cons, if_neg h1, if_neg h2, if_neg h3, if_neg h4, if_neg h5, if_neg h6, if_pos h91, hb]; rfl
              rw [hb] at q; rw [e]; simp only [Option.map, Option.elim] at q; rw [Nat.add_assoc] at q; exact q
          by_cases h34 : s[i].toNat = 34
          · have q := behind_34 s i w hs hi hA hD h34
            cases hb : qend false (s.data.toList.drop (i + 1)) with
            | none =>
              have e : beh (s.data.toList.drop i) = (0, 0) := by rw [hd0, beh_cons, if_neg h1, if_neg h2, if_neg h3, if_neg h4, if_neg h5, if_neg h6, if_neg h91, if_pos h34, hb]; rfl
              rw [hb] at q; rw [e]; exact q
            | some k =>
              have e : beh (s.data.toList.drop i) = (6, 1 + k) := by rw [hd0, beh_cons, if_neg h1, if_neg h2, if_neg h3, if_neg h4, if_neg h5, if_neg h6, if_neg h91, if_pos h34, hb]; rfl
              rw [hb] at q; rw [e]; simp only [Option.map, Option.elim] at q; rw [Nat.add_assoc] at q; exact q
          by_cases h64 : s[i].toNat = 64
          · have e : beh (s.data.toList.drop i) = (7, 1 + run digN (s.data.toList.drop (i + 1))) := by rw [hd0, beh_cons, if_neg h1, if_neg h2, if_neg h3, if_neg h4, if_neg h5, if_neg h6, if_neg h91, if_neg h34, if_pos h64]
            rw [e]; have q := behind_time s i w hs hi hA hD h64
            rw [Nat.add_assoc] at q; exact q
          · have e : beh (s.data.toList.drop i) = (0, 0) := by rw [hd0, beh_cons, if_neg h1, if_neg h2, if_neg h3, if_neg h4, if_neg h5, if_neg h6, if_neg h91, if_neg h34, if_neg h64]
            rw [e]; exact behind_no s i w hs hi hA hD h1 h2 h45 h60 h61 h43 h42 h91 h34 h64
    · have e : beh (s.data.toList.drop i) = (6, 1 + numLen (s.data.toList.drop (i + 1))) := by rw [hd0, beh_cons, if_neg h1, if_neg h2, if_neg h3, if_pos (by rw [hD]; simp)]
      rw [e]; have q := behind_dig s i w hs hi hA hD
      rw [Nat.add_assoc] at q; exact q
  · have e : beh (s.data.toList.drop i) = (3, 1 + run inwN (s.data.toList.drop (i + 1))) := by rw [hd0, beh_cons, if_neg h1, if_neg h2, if_pos hA]
    rw [e]; have q := behind_word s i w hs hi hA
    rw [Nat.add_assoc] at q; exact q
end Go.Proofs.YticmebamclacaabGreatDoor

namespace Go.Proofs.YticmebamclacaabGreatDoor
open Go.RowKit Go.Shelf
set_option linter.unusedVariables false

set_option maxRecDepth 100000 in
set_option maxHeartbeats 4000000 in
theorem num_no1 (s S : ByteArray) (k n d E : Int) (w : World) (h1 : -9223372036854775808 ≤ n) (h2 : n ≤ 9223372036854775807)
    (PA : Hid (∀ W : World, Pow W → Errs W → 9 ≤ W.heap.size → Calls Tryz.prog 101 #[.string s] W fun e w' => e = .returned (.tuple #[.agg #[.int .i64 k, .int .i64 n, .int .i64 d, .string S], .int .i64 E]) ∧ Below W.heap.size W w'))
    (ht : Pow w) (he : Errs w) (h8 : 9 ≤ w.heap.size) (hE : ¬ E = 0) :
    Calls Tryz.prog 102 #[.string s] w fun e w' => e = .returned (.tuple #[.agg #[.int .i64 0, .int .i64 0, .int .i64 0, .string ⟨#[]⟩], .bool false]) ∧ Below w.heap.size w w' := by
  have HE : Hid (Errs w) := he
  have HP : Hid (Pow w) := ht
  clear he ht
  go_enter Tryz.func102, Tryz.ntmps102
  go_wp2_with fail
  refine (PA.out _ (HP.out.below ((Below.refl _ w).alloc (Nat.le_refl _) _)) (HE.out.alloc h8 _) (by simp; omega)).mono ?_
  rintro e w1 ⟨rfl, hb1⟩
  have R1 : Hid (BlkV w1 w.heap.size 0 0 0 ⟨#[]⟩) := BlkV.below (by constructor <;> simp (maxDischargeDepth := 12) [go_sem]) hb1 (by simp)
  have B1 : Below w.heap.size w w1 := ((Below.refl _ w).alloc (Nat.le_refl _) _).trans (hb1.mono (by simp))
  have z1 : w.heap.size < w1.heap.size := by have := hb1.size; simp at this; omega
  clear hb1
  go_upto_region 2 with fail
  refine wp_world ?_
  intro W2 hW2
  have R2 : Hid (BlkV W2 w.heap.size 0 0 0 ⟨#[]⟩) := by rw [hW2]; exact R1.out.below ((Below.refl w1.heap.size w1).alloc (Nat.le_refl _) _) z1
  have V2 : Hid (BlkV W2 w1.heap.size k n d S) := by rw [hW2]; constructor <;> simp (maxDischargeDepth := 12) [go_sem]
  have B2 : Below w.heap.size w W2 := by rw [hW2]; exact B1.alloc B1.size _
  clear hW2 R1 B1 z1
  obtain ⟨r0, r1, r2, r3, r4, r5, r6, r7⟩ := R2.out
  obtain ⟨v0, v1, v2, v3, -, -, -, -⟩ := V2.out
  go_wp2
  generalize hW9 : World.setCell _ _ _ = W9
  have b9 : BlkV W9 w.heap.size 0 0 0 ⟨#[]⟩ := by rw [← hW9]; exact R2.out.four
  have hB9 : Below w.heap.size w W9 := by rw [← hW9]; exact (((B2.setCell (by simp) _).setCell (by simp) _).setCell (by simp) _).setCell (by simp) _
  clear hW9
  obtain ⟨x0, x1, x2, x3, -, -, -, -⟩ := b9
  refine bodyPost_ret (by simp [results, Tryz.results102, go_sem, x0, x1, x2, x3]; try rfl) rfl ?_
  exact ⟨rfl, hB9⟩

set_option maxRecDepth 100000 in
set_option maxHeartbeats 4000000 in
theorem num_no2 (s S : ByteArray) (k n d E : Int) (w : World) (h1 : -9223372036854775808 ≤ n) (h2 : n ≤ 9223372036854775807)
    (PA : Hid (∀ W : World, Pow W → Errs W → 9 ≤ W.heap.size → Calls Tryz.prog 101 #[.string s] W fun e w' => e = .returned (.tuple #[.agg #[.int .i64 k, .int .i64 n, .int .i64 d, .string S], .int .i64 E]) ∧ Below W.heap.size W w'))
    (ht : Pow w) (he : Errs w) (h8 : 9 ≤ w.heap.size) (hE : E = 0) (hk : ¬ k = 1) :
    Calls Tryz.prog 102 #[.string s] w fun e w' => e = .returned (.tuple #[.agg #[.int .i64 0, .int .i64 0, .int .i64 0, .string ⟨#[]⟩], .bool false]) ∧ Below w.heap.size w w' := by
  subst hE
  have HE : Hid (Errs w) := he
  have HP : Hid (Pow w) := ht
  clear he ht
  go_enter Tryz.func102, Tryz.ntmps102
  go_wp2_with fail
  refine (PA.out _ (HP.out.below ((Below.refl _ w).alloc (Nat.le_refl _) _)) (HE.out.alloc h8 _) (by simp; omega)).mono ?_
  rintro e w1 ⟨rfl, hb1⟩
  have R1 : Hid (BlkV w1 w.heap.size 0 0 0 ⟨#[]⟩) := BlkV.below (by constructor <;> simp (maxDischargeDepth := 12) [go_sem]) hb1 (by simp)
  have B1 : Below w.heap.size w w1 := ((Below.refl _ w).alloc (Nat.le_refl _) _).trans (hb1.mono (by simp))
  have z1 : w.heap.size < w1.heap.size := by have := hb1.size; simp at this; omega
  clear hb1
  go_upto_region 2 with fail
  refine wp_world ?_
  intro W2 hW2
  have R2 : Hid (BlkV W2 w.heap.size 0 0 0 ⟨#[]⟩) := by rw [hW2]; exact R1.out.below ((Below.refl w1.heap.size w1).alloc (Nat.le_refl _) _) z1
  have V2 : Hid (BlkV W2 w1.heap.size k n d S) := by rw [hW2]; constructor <;> simp (maxDischargeDepth := 12) [go_sem]
  have B2 : Below w.heap.size w W2 := by rw [hW2]; exact B1.alloc B1.size _
  clear hW2 R1 B1 z1
  obtain ⟨r0, r1, r2, r3, r4, r5, r6, r7⟩ := R2.out
  obtain ⟨v0, v1, v2, v3, -, -, -, -⟩ := V2.out
  go_wp2
  generalize hW9 : World.setCell _ _ _ = W9
  have b9 : BlkV W9 w.heap.size 0 0 0 ⟨#[]⟩ := by rw [← hW9]; exact R2.out.four
  have hB9 : Below w.heap.size w W9 := by rw [← hW9]; exact (((B2.setCell (by simp) _).setCell (by simp) _).setCell (by simp) _).setCell (by simp) _
  clear hW9
  obtain ⟨x0, x1, x2, x3, -, -, -, -⟩ := b9
  refine bodyPost_ret (by simp [results, Tryz.results102, go_sem, x0, x1, x2, x3]; try rfl) rfl ?_
  exact ⟨rfl, hB9⟩

set_option maxRecDepth 100000 in
set_option maxHeartbeats 4000000 in
theorem num_no3 (s S : ByteArray) (k n d E : Int) (w : World) (h1 : -9223372036854775808 ≤ n) (h2 : n ≤ 9223372036854775807)
    (PA : Hid (∀ W : World, Pow W → Errs W → 9 ≤ W.heap.size → Calls Tryz.prog 101 #[.string s] W fun e w' => e = .returned (.tuple #[.agg #[.int .i64 k, .int .i64 n, .int .i64 d, .string S], .int .i64 E]) ∧ Below W.heap.size W w'))
    (ht : Pow w) (he : Errs w) (h8 : 9 ≤ w.heap.size) (hE : E = 0) (hk : k = 1) (hn : n < 0) :
    Calls Tryz.prog 102 #[.string s] w fun e w' => e = .returned (.tuple #[.agg #[.int .i64 0, .int .i64 0, .int .i64 0, .string ⟨#[]⟩], .bool false]) ∧ Below w.heap.size w w' := by
  subst hE
  subst hk
  have HE : Hid (Errs w) := he
  have HP : Hid (Pow w) := ht
  clear he ht
  go_enter Tryz.func102, Tryz.ntmps102
  go_wp2_with fail
  refine (PA.out _ (HP.out.below ((Below.refl _ w).alloc (Nat.le_refl _) _)) (HE.out.alloc h8 _) (by simp; omega)).mono ?_
  rintro e w1 ⟨rfl, hb1⟩
  have R1 : Hid (BlkV w1 w.heap.size 0 0 0 ⟨#[]⟩) := BlkV.below (by constructor <;> simp (maxDischargeDepth := 12) [go_sem]) hb1 (by simp)
  have B1 : Below w.heap.size w w1 := ((Below.refl _ w).alloc (Nat.le_refl _) _).trans (hb1.mono (by simp))
  have z1 : w.heap.size < w1.heap.size := by have := hb1.size; simp at this; omega
  clear hb1
  go_upto_region 2 with fail
  refine wp_world ?_
  intro W2 hW2
  have R2 : Hid (BlkV W2 w.heap.size 0 0 0 ⟨#[]⟩) := by rw [hW2]; exact R1.out.below ((Below.refl w1.heap.size w1).alloc (Nat.le_refl _) _) z1
  have V2 : Hid (BlkV W2 w1.heap.size 1 n d S) := by rw [hW2]; constructor <;> simp (maxDischargeDepth := 12) [go_sem]
  have B2 : Below w.heap.size w W2 := by rw [hW2]; exact B1.alloc B1.size _
  clear hW2 R1 B1 z1
  obtain ⟨r0, r1, r2, r3, r4, r5, r6, r7⟩ := R2.out
  obtain ⟨v0, v1, v2, v3, -, -, -, -⟩ := V2.out
  go_wp2
  generalize hW9 : World.setCell _ _ _ = W9
  have b9 : BlkV W9 w.heap.size 0 0 0 ⟨#[]⟩ := by rw [← hW9]; exact R2.out.four
  have hB9 : Below w.heap.size w W9 := by rw [← hW9]; exact (((B2.setCell (by simp) _).setCell (by simp) _).setCell (by simp) _).setCell (by simp) _
  clear hW9
  obtain ⟨x0, x1, x2, x3, -, -, -, -⟩ := b9
  refine bodyPost_ret (by simp [results, Tryz.results102, go_sem, x0, x1, x2, x3]; try rfl) rfl ?_
  exact ⟨rfl, hB9⟩

set_option maxRecDepth 100000 in
set_option maxHeartbeats 4000000 in
theorem num_no4 (s S : ByteArray) (k n d E : Int) (w : World) (h1 : -9223372036854775808 ≤ n) (h2 : n ≤ 9223372036854775807)
    (PA : Hid (∀ W : World, Pow W → Errs W → 9 ≤ W.heap.size → Calls Tryz.prog 101 #[.string s] W fun e w' => e = .returned (.tuple #[.agg #[.int .i64 k, .int .i64 n, .int .i64 d, .string S], .int .i64 E]) ∧ Below W.heap.size W w'))
    (ht : Pow w) (he : Errs w) (h8 : 9 ≤ w.heap.size) (hE : E = 0) (hk : k = 1) (hn : 0 ≤ n) (hm : 1099511627776 < n) :
    Calls Tryz.prog 102 #[.string s] w fun e w' => e = .returned (.tuple #[.agg #[.int .i64 0, .int .i64 0, .int .i64 0, .string ⟨#[]⟩], .bool false]) ∧ Below w.heap.size w w' := by
  subst hE
  subst hk
  have HE : Hid (Errs w) := he
  have HP : Hid (Pow w) := ht
  clear he ht
  go_enter Tryz.func102, Tryz.ntmps102
  go_wp2_with fail
  refine (PA.out _ (HP.out.below ((Below.refl _ w).alloc (Nat.le_refl _) _)) (HE.out.alloc h8 _) (by simp; omega)).mono ?_
  rintro e w1 ⟨rfl, hb1⟩
  have R1 : Hid (BlkV w1 w.heap.size 0 0 0 ⟨#[]⟩) := BlkV.below (by constructor <;> simp (maxDischargeDepth := 12) [go_sem]) hb1 (by simp)
  have B1 : Below w.heap.size w w1 := ((Below.refl _ w).alloc (Nat.le_refl _) _).trans (hb1.mono (by simp))
  have z1 : w.heap.size < w1.heap.size := by have := hb1.size; simp at this; omega
  clear hb1
  go_upto_region 2 with fail
  refine wp_world ?_
  intro W2 hW2
  have R2 : Hid (BlkV W2 w.heap.size 0 0 0 ⟨#[]⟩) := by rw [hW2]; exact R1.out.below ((Below.refl w1.heap.size w1).alloc (Nat.le_refl _) _) z1
  have V2 : Hid (BlkV W2 w1.heap.size 1 n d S) := by rw [hW2]; constructor <;> simp (maxDischargeDepth := 12) [go_sem]
  have B2 : Below w.heap.size w W2 := by rw [hW2]; exact B1.alloc B1.size _
  clear hW2 R1 B1 z1
  obtain ⟨r0, r1, r2, r3, r4, r5, r6, r7⟩ := R2.out
  obtain ⟨v0, v1, v2, v3, -, -, -, -⟩ := V2.out
  go_wp2
  generalize hW9 : World.setCell _ _ _ = W9
  have b9 : BlkV W9 w.heap.size 0 0 0 ⟨#[]⟩ := by rw [← hW9]; exact R2.out.four
  have hB9 : Below w.heap.size w W9 := by rw [← hW9]; exact (((B2.setCell (by simp) _).setCell (by simp) _).setCell (by simp) _).setCell (by simp) _
  clear hW9
  obtain ⟨x0, x1, x2, x3, -, -, -, -⟩ := b9
  refine bodyPost_ret (by simp [results, Tryz.results102, go_sem, x0, x1, x2, x3]; try rfl) rfl ?_
  exact ⟨rfl, hB9⟩

set_option maxRecDepth 100000 in
set_option maxHeartbeats 4000000 in
theorem num_yes1 (s S : ByteArray) (k n d E : Int) (w : World) (h1 : -9223372036854775808 ≤ n) (h2 : n ≤ 9223372036854775807)
    (PA : Hid (∀ W : World, Pow W → Errs W → 9 ≤ W.heap.size → Calls Tryz.prog 101 #[.string s] W fun e w' => e = .returned (.tuple #[.agg #[.int .i64 k, .int .i64 n, .int .i64 d, .string S], .int .i64 E]) ∧ Below W.heap.size W w'))
    (ht : Pow w) (he : Errs w) (h8 : 9 ≤ w.heap.size) (hE : E = 0) (hk : k = 1) (hn : 0 ≤ n) (hm : n ≤ 1099511627776) :
    Calls Tryz.prog 102 #[.string s] w fun e w' => e = .returned (.tuple #[.agg #[.int .i64 k, .int .i64 n, .int .i64 d, .string S], .bool true]) ∧ Below w.heap.size w w' := by
  subst hE
  subst hk
  have HE : Hid (Errs w) := he
  have HP : Hid (Pow w) := ht
  clear he ht
  go_enter Tryz.func102, Tryz.ntmps102
  go_wp2_with fail
  refine (PA.out _ (HP.out.below ((Below.refl _ w).alloc (Nat.le_refl _) _)) (HE.out.alloc h8 _) (by simp; omega)).mono ?_
  rintro e w1 ⟨rfl, hb1⟩
  have R1 : Hid (BlkV w1 w.heap.size 0 0 0 ⟨#[]⟩) := BlkV.below (by constructor <;> simp (maxDischargeDepth := 12) [go_sem]) hb1 (by simp)
  have B1 : Below w.heap.size w w1 := ((Below.refl _ w).alloc (Nat.le_refl _) _).trans (hb1.mono (by simp))
  have z1 : w.heap.size < w1.heap.size := by have := hb1.size; simp at this; omega
  clear hb1
  go_upto_region 2 with fail
  refine wp_world ?_
  intro W2 hW2
  have R2 : Hid (BlkV W2 w.heap.size 0 0 0 ⟨#[]⟩) := by rw [hW2]; exact R1.out.below ((Below.refl w1.heap.size w1).alloc (Nat.le_refl _) _) z1
  have V2 : Hid (BlkV W2 w1.heap.size 1 n d S) := by rw [hW2]; constructor <;> simp (maxDischargeDepth := 12) [go_sem]
  have B2 : Below w.heap.size w W2 := by rw [hW2]; exact B1.alloc B1.size _
  clear hW2 R1 B1 z1
  obtain ⟨r0, r1, r2, r3, r4, r5, r6, r7⟩ := R2.out
  obtain ⟨v0, v1, v2, v3, -, -, -, -⟩ := V2.out
  go_wp2
  generalize hW9 : World.setCell _ _ _ = W9
  have b9 : BlkV W9 w.heap.size 1 n d S := by rw [← hW9]; exact R2.out.four
  have hB9 : Below w.heap.size w W9 := by rw [← hW9]; exact (((B2.setCell (by simp) _).setCell (by simp) _).setCell (by simp) _).setCell (by simp) _
  clear hW9
  obtain ⟨x0, x1, x2, x3, -, -, -, -⟩ := b9
  refine bodyPost_ret (by simp [results, Tryz.results102, go_sem, x0, x1, x2, x3]; try rfl) rfl ?_
  exact ⟨rfl, hB9⟩

/-- What number tells of a text. -/
def zeroV : Val := ⟨0, 0, 0, ⟨#[]⟩⟩
def numB (l : List UInt8) : Val × Bool :=
  if (prs l).2 = 0 ∧ (prs l).1.k = 1 ∧ 0 ≤ (prs l).1.n ∧ (prs l).1.n ≤ 1099511627776 then ((prs l).1, true) else (zeroV, false)
def Val.agg (v : Val) : Value := .agg #[.int .i64 v.k, .int .i64 v.n, .int .i64 v.d, .string v.s]
theorem lprs_fits (l : List UInt8) : (prs l).1.Fits := by
  have hz : Val.Fits ⟨0, 0, 0, ⟨#[]⟩⟩ := ⟨by simp, by simp, by simp, by simp⟩
  unfold prs
  split
  · split
    · exact gss_fits l
    · exact hz
  · exact hz
theorem lnumber_any (s : ByteArray) (w : World) (hs : s.size ≤ 35184372088830) (ht : Pow w) (he : Errs w) (h8 : 9 ≤ w.heap.size) :
    Calls Tryz.prog 102 #[.string s] w fun e w' => e = .returned (.tuple #[(numB s.data.toList).1.agg, .bool (numB s.data.toList).2]) ∧ Below w.heap.size w w' := by
  have PA := fun (W : World) (g1 : Pow W) (g2 : Errs W) (g3 : 9 ≤ W.heap.size) => parse_any s W hs g1 g2 g3
  have hf := lprs_fits s.data.toList
  unfold numB
  obtain ⟨g, hg⟩ : ∃ g, prs s.data.toList = g := ⟨_, rfl⟩
  rw [hg] at PA hf ⊢
  obtain ⟨⟨k, n, d, S⟩, E⟩ := g
  dsimp only at PA hf ⊢
  by_cases hE : E = 0
  · by_cases hk : k = 1
    · by_cases hn : 0 ≤ n
      · by_cases hm : n ≤ 1099511627776
        · rw [if_pos ⟨hE, hk, hn, hm⟩]
          exact num_yes1 s S k n d E w hf.n1 hf.n2 PA ht he h8 hE hk hn hm
        · rw [if_neg (fun x => hm x.2.2.2)]
          exact num_no4 s S k n d E w hf.n1 hf.n2 PA ht he h8 hE hk hn (by omega)
      · rw [if_neg (fun x => hn x.2.2.1)]
        exact num_no3 s S k n d E w hf.n1 hf.n2 PA ht he h8 hE hk (by omega)
    · rw [if_neg (fun x => hk x.2.1)]
      exact num_no2 s S k n d E w hf.n1 hf.n2 PA ht he h8 hE hk
  · rw [if_neg (fun x => hE x.1)]
    exact num_no1 s S k n d E w hf.n1 hf.n2 PA ht he h8 hE
end Go.Proofs.YticmebamclacaabGreatDoor

namespace Go.Proofs.YticmebamclacaabGreatDoor
open Go.RowKit Go.Shelf
set_option linter.unusedVariables false

set_option maxRecDepth 100000 in
set_option maxHeartbeats 4000000 in
theorem iv_1 (s A B : ByteArray) (a b : Val) (br oa ob : Bool) (w : World)
    (CU : Hid (∀ W : World, Calls Tryz.prog 110 #[.string s, .string ⟨#[44]⟩] W fun e w' => e = .returned (.tuple #[.string A, .string B, .bool br]) ∧ ∃ k, w' = W.drewN k))
    (NA : Hid (∀ W : World, Pow W → Errs W → 9 ≤ W.heap.size → Calls Tryz.prog 102 #[.string A] W fun e w' => e = .returned (.tuple #[.agg #[.int .i64 a.k, .int .i64 a.n, .int .i64 a.d, .string a.s], .bool oa]) ∧ Below W.heap.size W w'))
    (NB : Hid (∀ W : World, Pow W → Errs W → 9 ≤ W.heap.size → Calls Tryz.prog 102 #[.string B] W fun e w' => e = .returned (.tuple #[.agg #[.int .i64 b.k, .int .i64 b.n, .int .i64 b.d, .string b.s], .bool ob]) ∧ Below W.heap.size W w'))
    (ht : Pow w) (he : Errs w) (h8 : 9 ≤ w.heap.size) (h1 : br = false) :
    Calls Tryz.prog 100 #[.string s] w fun e w' => e = .returned (.bool false) ∧ Below w.heap.size w w' := by
  subst h1
  obtain ⟨ak, an, ad, aS⟩ := a
  obtain ⟨bk, bn, bd, bS⟩ := b
  dsimp only at NA NB ⊢
  have HE : Hid (Errs w) := he
  have HP : Hid (Pow w) := ht
  clear he ht
  go_enter Tryz.func100, Tryz.ntmps100
  go_wp2_with fail
  refine (CU.out _).mono ?_
  rintro e w0 ⟨rfl, k, rfl⟩
  have B0 : Below w.heap.size w (w.drewN k) := bdrewN k (Below.refl _ w)
  go_wp2_with fail
  refine (NA.out _ (HP.out.below B0) (HE.out.below B0 h8) h8).mono ?_
  rintro e w1 ⟨rfl, hb1⟩
  have B1 : Below w.heap.size w w1 := B0.trans (hb1.mono (Nat.le_refl _))
  have z1 : w.heap.size ≤ w1.heap.size := B1.size
  clear hb1 B0
  go_upto_region 3 with fail
  refine wp_world ?_
  intro W2 hW2
  have V2 : Hid (BlkV W2 w1.heap.size ak an ad aS) := by rw [hW2]; constructor <;> simp (maxDischargeDepth := 12) [go_sem]
  have B2 : Below w.heap.size w W2 := by rw [hW2]; exact B1.alloc B1.size _
  have z2 : w1.heap.size < W2.heap.size := by rw [hW2]; simp
  clear hW2
  go_wp2
  go_ret
  exact ⟨rfl, B2⟩
set_option maxRecDepth 100000 in
set_option maxHeartbeats 4000000 in
theorem iv_2 (s A B : ByteArray) (a b : Val) (br oa ob : Bool) (w : World)
    (CU : Hid (∀ W : World, Calls Tryz.prog 110 #[.string s, .string ⟨#[44]⟩] W fun e w' => e = .returned (.tuple #[.string A, .string B, .bool br]) ∧ ∃ k, w' = W.drewN k))
    (NA : Hid (∀ W : World, Pow W → Errs W → 9 ≤ W.heap.size → Calls Tryz.prog 102 #[.string A] W fun e w' => e = .returned (.tuple #[.agg #[.int .i64 a.k, .int .i64 a.n, .int .i64 a.d, .string a.s], .bool oa]) ∧ Below W.heap.size W w'))
    (NB : Hid (∀ W : World, Pow W → Errs W → 9 ≤ W.heap.size → Calls Tryz.prog 102 #[.string B] W fun e w' => e = .returned (.tuple #[.agg #[.int .i64 b.k, .int .i64 b.n, .int .i64 b.d, .string b.s], .bool ob]) ∧ Below W.heap.size W w'))
    (ht : Pow w) (he : Errs w) (h8 : 9 ≤ w.heap.size) (h1 : br = true) (h2 : oa = false) :
    Calls Tryz.prog 100 #[.string s] w fun e w' => e = .returned (.bool false) ∧ Below w.heap.size w w' := by
  subst h1
  subst h2
  obtain ⟨ak, an, ad, aS⟩ := a
  obtain ⟨bk, bn, bd, bS⟩ := b
  dsimp only at NA NB ⊢
  have HE : Hid (Errs w) := he
  have HP : Hid (Pow w) := ht
  clear he ht
  go_enter Tryz.func100, Tryz.ntmps100
  go_wp2_with fail
  refine (CU.out _).mono ?_
  rintro e w0 ⟨rfl, k, rfl⟩
  have B0 : Below w.heap.size w (w.drewN k) := bdrewN k (Below.refl _ w)
  go_wp2_with fail
  refine (NA.out _ (HP.out.below B0) (HE.out.below B0 h8) h8).mono ?_
  rintro e w1 ⟨rfl, hb1⟩
  have B1 : Below w.heap.size w w1 := B0.trans (hb1.mono (Nat.le_refl _))
  have z1 : w.heap.size ≤ w1.heap.size := B1.size
  clear hb1 B0
  go_upto_region 3 with fail
  refine wp_world ?_
  intro W2 hW2
  have V2 : Hid (BlkV W2 w1.heap.size ak an ad aS) := by rw [hW2]; constructor <;> simp (maxDischargeDepth := 12) [go_sem]
  have B2 : Below w.heap.size w W2 := by rw [hW2]; exact B1.alloc B1.size _
  have z2 : w1.heap.size < W2.heap.size := by rw [hW2]; simp
  clear hW2
  go_wp2
  go_ret
  exact ⟨rfl, B2⟩
set_option maxRecDepth 100000 in
set_option maxHeartbeats 4000000 in
theorem iv_3 (s A B : ByteArray) (a b : Val) (br oa ob : Bool) (w : World)
    (CU : Hid (∀ W : World, Calls Tryz.prog 110 #[.string s, .string ⟨#[44]⟩] W fun e w' => e = .returned (.tuple #[.string A, .string B, .bool br]) ∧ ∃ k, w' = W.drewN k))
    (NA : Hid (∀ W : World, Pow W → Errs W → 9 ≤ W.heap.size → Calls Tryz.prog 102 #[.string A] W fun e w' => e = .returned (.tuple #[.agg #[.int .i64 a.k, .int .i64 a.n, .int .i64 a.d, .string a.s], .bool oa]) ∧ Below W.heap.size W w'))
    (NB : Hid (∀ W : World, Pow W → Errs W → 9 ≤ W.heap.size → Calls Tryz.prog 102 #[.string B] W fun e w' => e = .returned (.tuple #[.agg #[.int .i64 b.k, .int .i64 b.n, .int .i64 b.d, .string b.s], .bool ob]) ∧ Below W.heap.size W w'))
    (ht : Pow w) (he : Errs w) (h8 : 9 ≤ w.heap.size) (h1 : br = true) (h2 : oa = true) (h3 : B = ⟨#[42]⟩) :
    Calls Tryz.prog 100 #[.string s] w fun e w' => e = .returned (.bool true) ∧ Below w.heap.size w w' := by
  subst h1
  subst h2
  subst h3
  obtain ⟨ak, an, ad, aS⟩ := a
  obtain ⟨bk, bn, bd, bS⟩ := b
  dsimp only at NA NB ⊢
  have HE : Hid (Errs w) := he
  have HP : Hid (Pow w) := ht
  clear he ht
  go_enter Tryz.func100, Tryz.ntmps100
  go_wp2_with fail
  refine (CU.out _).mono ?_
  rintro e w0 ⟨rfl, k, rfl⟩
  have B0 : Below w.heap.size w (w.drewN k) := bdrewN k (Below.refl _ w)
  go_wp2_with fail
  refine (NA.out _ (HP.out.below B0) (HE.out.below B0 h8) h8).mono ?_
  rintro e w1 ⟨rfl, hb1⟩
  have B1 : Below w.heap.size w w1 := B0.trans (hb1.mono (Nat.le_refl _))
  have z1 : w.heap.size ≤ w1.heap.size := B1.size
  clear hb1 B0
  go_upto_region 3 with fail
  refine wp_world ?_
  intro W2 hW2
  have V2 : Hid (BlkV W2 w1.heap.size ak an ad aS) := by rw [hW2]; constructor <;> simp (maxDischargeDepth := 12) [go_sem]
  have B2 : Below w.heap.size w W2 := by rw [hW2]; exact B1.alloc B1.size _
  have z2 : w1.heap.size < W2.heap.size := by rw [hW2]; simp
  clear hW2
  go_wp2
  go_ret
  exact ⟨rfl, B2⟩
set_option maxRecDepth 100000 in
set_option maxHeartbeats 4000000 in
theorem iv_4 (s A B : ByteArray) (a b : Val) (br oa ob : Bool) (w : World)
    (CU : Hid (∀ W : World, Calls Tryz.prog 110 #[.string s, .string ⟨#[44]⟩] W fun e w' => e = .returned (.tuple #[.string A, .string B, .bool br]) ∧ ∃ k, w' = W.drewN k))
    (NA : Hid (∀ W : World, Pow W → Errs W → 9 ≤ W.heap.size → Calls Tryz.prog 102 #[.string A] W fun e w' => e = .returned (.tuple #[.agg #[.int .i64 a.k, .int .i64 a.n, .int .i64 a.d, .string a.s], .bool oa]) ∧ Below W.heap.size W w'))
    (NB : Hid (∀ W : World, Pow W → Errs W → 9 ≤ W.heap.size → Calls Tryz.prog 102 #[.string B] W fun e w' => e = .returned (.tuple #[.agg #[.int .i64 b.k, .int .i64 b.n, .int .i64 b.d, .string b.s], .bool ob]) ∧ Below W.heap.size W w'))
    (ht : Pow w) (he : Errs w) (h8 : 9 ≤ w.heap.size) (h1 : br = true) (h2 : oa = true) (h3 : ¬ B = ⟨#[42]⟩) (h4 : ob = false) :
    Calls Tryz.prog 100 #[.string s] w fun e w' => e = .returned (.bool false) ∧ Below w.heap.size w w' := by
  subst h1
  subst h2
  subst h4
  have h3a : (B.toList == [42]) = false := by
    simp only [beq_eq_false_iff_ne, ne_eq]
    exact fun h => h3 (by rw [ByteArray.toList_eq] at h; exact ba_eq h)
  obtain ⟨ak, an, ad, aS⟩ := a
  obtain ⟨bk, bn, bd, bS⟩ := b
  dsimp only at NA NB ⊢
  have HE : Hid (Errs w) := he
  have HP : Hid (Pow w) := ht
  clear he ht
  go_enter Tryz.func100, Tryz.ntmps100
  go_wp2_with fail
  refine (CU.out _).mono ?_
  rintro e w0 ⟨rfl, k, rfl⟩
  have B0 : Below w.heap.size w (w.drewN k) := bdrewN k (Below.refl _ w)
  go_wp2_with fail
  refine (NA.out _ (HP.out.below B0) (HE.out.below B0 h8) h8).mono ?_
  rintro e w1 ⟨rfl, hb1⟩
  have B1 : Below w.heap.size w w1 := B0.trans (hb1.mono (Nat.le_refl _))
  have z1 : w.heap.size ≤ w1.heap.size := B1.size
  clear hb1 B0
  go_upto_region 3 with fail
  refine wp_world ?_
  intro W2 hW2
  have V2 : Hid (BlkV W2 w1.heap.size ak an ad aS) := by rw [hW2]; constructor <;> simp (maxDischargeDepth := 12) [go_sem]
  have B2 : Below w.heap.size w W2 := by rw [hW2]; exact B1.alloc B1.size _
  have z2 : w1.heap.size < W2.heap.size := by rw [hW2]; simp
  clear hW2
  go_wp2_with fail
  refine (NB.out _ (HP.out.below B2) (HE.out.below B2 h8) (by omega)).mono ?_
  rintro e w3 ⟨rfl, hb3⟩
  have V3 : Hid (BlkV w3 w1.heap.size ak an ad aS) := V2.out.below hb3 z2
  have B3 : Below w.heap.size w w3 := B2.trans (hb3.mono B2.size)
  have z3 : w1.heap.size < w3.heap.size := by have := hb3.size; omega
  clear hb3 V2 B2
  go_upto_region 8 with fail
  refine wp_world ?_
  intro W4 hW4
  have V4 : Hid (BlkV W4 w1.heap.size ak an ad aS) := by rw [hW4]; exact V3.out.below ((Below.refl w3.heap.size w3).alloc (Nat.le_refl _) _) z3
  have U4 : Hid (BlkV W4 w3.heap.size bk bn bd bS) := by rw [hW4]; constructor <;> simp (maxDischargeDepth := 12) [go_sem]
  have B4 : Below w.heap.size w W4 := by rw [hW4]; exact B3.alloc B3.size _
  clear hW4 V3 B3
  obtain ⟨v0, v1, v2, v3, -, -, -, -⟩ := V4.out
  obtain ⟨u0, u1, u2, u3, -, -, -, -⟩ := U4.out
  go_wp2
  go_ret
  exact ⟨rfl, B4⟩
set_option maxRecDepth 100000 in
set_option maxHeartbeats 4000000 in
theorem iv_5 (s A B : ByteArray) (a b : Val) (br oa ob : Bool) (w : World)
    (CU : Hid (∀ W : World, Calls Tryz.prog 110 #[.string s, .string ⟨#[44]⟩] W fun e w' => e = .returned (.tuple #[.string A, .string B, .bool br]) ∧ ∃ k, w' = W.drewN k))
    (NA : Hid (∀ W : World, Pow W → Errs W → 9 ≤ W.heap.size → Calls Tryz.prog 102 #[.string A] W fun e w' => e = .returned (.tuple #[.agg #[.int .i64 a.k, .int .i64 a.n, .int .i64 a.d, .string a.s], .bool oa]) ∧ Below W.heap.size W w'))
    (NB : Hid (∀ W : World, Pow W → Errs W → 9 ≤ W.heap.size → Calls Tryz.prog 102 #[.string B] W fun e w' => e = .returned (.tuple #[.agg #[.int .i64 b.k, .int .i64 b.n, .int .i64 b.d, .string b.s], .bool ob]) ∧ Below W.heap.size W w'))
    (ht : Pow w) (he : Errs w) (h8 : 9 ≤ w.heap.size) (h1 : br = true) (h2 : oa = true) (h3 : ¬ B = ⟨#[42]⟩) (h4 : ob = true) :
    Calls Tryz.prog 100 #[.string s] w fun e w' => e = .returned (.bool (decide (a.n ≤ b.n))) ∧ Below w.heap.size w w' := by
  subst h1
  subst h2
  subst h4
  have h3a : (B.toList == [42]) = false := by
    simp only [beq_eq_false_iff_ne, ne_eq]
    exact fun h => h3 (by rw [ByteArray.toList_eq] at h; exact ba_eq h)
  obtain ⟨ak, an, ad, aS⟩ := a
  obtain ⟨bk, bn, bd, bS⟩ := b
  dsimp only at NA NB ⊢
  have HE : Hid (Errs w) := he
  have HP : Hid (Pow w) := ht
  clear he ht
  go_enter Tryz.func100, Tryz.ntmps100
  go_wp2_with fail
  refine (CU.out _).mono ?_
  rintro e w0 ⟨rfl, k, rfl⟩
  have B0 : Below w.heap.size w (w.drewN k) := bdrewN k (Below.refl _ w)
  go_wp2_with fail
  refine (NA.out _ (HP.out.below B0) (HE.out.below B0 h8) h8).mono ?_
  rintro e w1 ⟨rfl, hb1⟩
  have B1 : Below w.heap.size w w1 := B0.trans (hb1.mono (Nat.le_refl _))
  have z1 : w.heap.size ≤ w1.heap.size := B1.size
  clear hb1 B0
  go_upto_region 3 with fail
  refine wp_world ?_
  intro W2 hW2
  have V2 : Hid (BlkV W2 w1.heap.size ak an ad aS) := by rw [hW2]; constructor <;> simp (maxDischargeDepth := 12) [go_sem]
  have B2 : Below w.heap.size w W2 := by rw [hW2]; exact B1.alloc B1.size _
  have z2 : w1.heap.size < W2.heap.size := by rw [hW2]; simp
  clear hW2
  go_wp2_with fail
  refine (NB.out _ (HP.out.below B2) (HE.out.below B2 h8) (by omega)).mono ?_
  rintro e w3 ⟨rfl, hb3⟩
  have V3 : Hid (BlkV w3 w1.heap.size ak an ad aS) := V2.out.below hb3 z2
  have B3 : Below w.heap.size w w3 := B2.trans (hb3.mono B2.size)
  have z3 : w1.heap.size < w3.heap.size := by have := hb3.size; omega
  clear hb3 V2 B2
  go_upto_region 8 with fail
  refine wp_world ?_
  intro W4 hW4
  have V4 : Hid (BlkV W4 w1.heap.size ak an ad aS) := by rw [hW4]; exact V3.out.below ((Below.refl w3.heap.size w3).alloc (Nat.le_refl _) _) z3
  have U4 : Hid (BlkV W4 w3.heap.size bk bn bd bS) := by rw [hW4]; constructor <;> simp (maxDischargeDepth := 12) [go_sem]
  have B4 : Below w.heap.size w W4 := by rw [hW4]; exact B3.alloc B3.size _
  clear hW4 V3 B3
  obtain ⟨v0, v1, v2, v3, -, -, -, -⟩ := V4.out
  obtain ⟨u0, u1, u2, u3, -, -, -, -⟩ := U4.out
  go_wp2
  go_ret
  exact ⟨rfl, B4⟩
/-- Whether a text is an interval's, without its brackets. -/
def ivB (l : List UInt8) : Bool :=
  (cutC l).2.2 && (numB (cutC l).1).2 && (decide ((cutC l).2.1 = [42]) || ((numB (cutC l).2.1).2 && decide ((numB (cutC l).1).1.n ≤ (numB (cutC l).2.1).1.n)))
theorem cutC_len : ∀ (l : List UInt8), (cutC l).1.length ≤ l.length ∧ (cutC l).2.1.length ≤ l.length
  | [] => by simp [cutC]
  | c :: r => by
    have ih := cutC_len r
    unfold cutC
    split
    · simp
    · simp; omega
theorem iv_any (s : ByteArray) (w : World) (hs : s.size ≤ 35184372088830) (ht : Pow w) (he : Errs w) (h8 : 9 ≤ w.heap.size) :
    Calls Tryz.prog 100 #[.string s] w fun e w' => e = .returned (.bool (ivB s.data.toList)) ∧ Below w.heap.size w w' := by
  have CU := fun (W : World) => comma_any s W (by omega)
  have hl : s.data.toList.length = s.size := by simp
  have hc := cutC_len s.data.toList
  unfold ivB
  obtain ⟨c, hg⟩ : ∃ c, cutC s.data.toList = c := ⟨_, rfl⟩
  rw [hg] at CU hc ⊢
  obtain ⟨A, B, br⟩ := c
  dsimp only at CU hc ⊢
  have NA := fun (W : World) (g1 : Pow W) (g2 : Errs W) (g3 : 9 ≤ W.heap.size) => lnumber_any ⟨A.toArray⟩ W (by show A.toArray.size ≤ _; simp; omega) g1 g2 g3
  have NB := fun (W : World) (g1 : Pow W) (g2 : Errs W) (g3 : 9 ≤ W.heap.size) => lnumber_any ⟨B.toArray⟩ W (by show B.toArray.size ≤ _; simp; omega) g1 g2 g3
  simp only [] at NA NB
  cases br
  · exact iv_1 s _ _ _ _ _ _ _ w CU NA NB ht he h8 rfl
  · cases ha : (numB A).2
    · exact iv_2 s _ _ _ _ _ _ _ w CU NA NB ht he h8 rfl ha
    · by_cases hb : B = [42]
      · rw [decide_eq_true hb]
        subst hb
        exact iv_3 s _ _ _ _ _ _ _ w CU NA NB ht he h8 rfl ha rfl
      · have hb' : ¬ (⟨B.toArray⟩ : ByteArray) = ⟨#[42]⟩ := by
          intro h
          apply hb
          have := congrArg (fun x : ByteArray => x.data.toList) h
          simpa using this
        rw [decide_eq_false hb]
        cases hq : (numB B).2
        · exact iv_4 s _ _ _ _ _ _ _ w CU NA NB ht he h8 rfl ha hb' hq
        · have q := iv_5 s _ _ _ _ _ _ _ w CU NA NB ht he h8 rfl ha hb' hq
          simpa using q
end Go.Proofs.YticmebamclacaabGreatDoor

namespace Go.Proofs.YticmebamclacaabGreatDoor
open Go.RowKit Go.Shelf LX
set_option linter.unusedVariables false

theorem ext_mid (s : ByteArray) (a b : Nat) : (s.extract a b).data.toList = (s.data.toList.drop a).take (b - a) := by
  simp [ByteArray.data_extract]
set_option maxRecDepth 100000 in
set_option maxHeartbeats 4000000 in
theorem said_3 (K : Int) (s S : ByteArray) (k n d E : Int) (ok : Bool) (w : World)
    (ht : Pow w) (he : Errs w) (h8 : 9 ≤ w.heap.size) :
    Calls Tryz.prog 79 #[.int .i64 3, .string s] w fun e w' => e = .returned (.tuple #[.agg #[.int .i64 0, .int .i64 0, .int .i64 0, .string ⟨#[]⟩], .bool (decide ((s.size : Int) ≤ 16))]) ∧ Below w.heap.size w w' := by
  have HE : Hid (Errs w) := he
  have HP : Hid (Pow w) := ht
  clear he ht
  go_enter Tryz.func79, Tryz.ntmps79
  go_upto_region 3 with fail
  refine wp_world ?_
  intro W2 hW2
  have R2 : Hid (BlkV W2 w.heap.size 0 0 0 ⟨#[]⟩) := by rw [hW2]; constructor <;> simp (maxDischargeDepth := 12) [go_sem]
  have B2 : Below w.heap.size w W2 := by rw [hW2]; exact (Below.refl _ w).alloc (Nat.le_refl _) _
  clear hW2
  obtain ⟨r0, r1, r2, r3, r4, r5, r6, r7⟩ := R2.out
  go_wp2
  generalize hW9 : World.setCell _ _ _ = W9
  have b9 : BlkV W9 w.heap.size 0 0 0 ⟨#[]⟩ := by rw [← hW9]; exact R2.out.four
  have hB9 : Below w.heap.size w W9 := by rw [← hW9]; exact (((B2.setCell (by simp) _).setCell (by simp) _).setCell (by simp) _).setCell (by simp) _
  clear hW9
  obtain ⟨x0, x1, x2, x3, -, -, -, -⟩ := b9
  refine bodyPost_ret (by simp [results, Tryz.results79, go_sem, x0, x1, x2, x3]; try rfl) rfl ?_
  exact ⟨rfl, hB9⟩

set_option maxRecDepth 100000 in
set_option maxHeartbeats 4000000 in
theorem said_0 (K : Int) (s S : ByteArray) (k n d E : Int) (ok : Bool) (w : World)
    (ht : Pow w) (he : Errs w) (h8 : 9 ≤ w.heap.size) (h3 : ¬ K = 3) (h5 : ¬ K = 5) (h6 : ¬ K = 6) (h7 : ¬ K = 7) :
    Calls Tryz.prog 79 #[.int .i64 K, .string s] w fun e w' => e = .returned (.tuple #[.agg #[.int .i64 0, .int .i64 0, .int .i64 0, .string ⟨#[]⟩], .bool true]) ∧ Below w.heap.size w w' := by
  have HE : Hid (Errs w) := he
  have HP : Hid (Pow w) := ht
  clear he ht
  go_enter Tryz.func79, Tryz.ntmps79
  go_upto_region 11 with fail
  refine wp_world ?_
  intro W2 hW2
  have R2 : Hid (BlkV W2 w.heap.size 0 0 0 ⟨#[]⟩) := by rw [hW2]; constructor <;> simp (maxDischargeDepth := 12) [go_sem]
  have B2 : Below w.heap.size w W2 := by rw [hW2]; exact (Below.refl _ w).alloc (Nat.le_refl _) _
  clear hW2
  obtain ⟨r0, r1, r2, r3, r4, r5, r6, r7⟩ := R2.out
  go_wp2
  generalize hW9 : World.setCell _ _ _ = W9
  have b9 : BlkV W9 w.heap.size 0 0 0 ⟨#[]⟩ := by rw [← hW9]; exact R2.out.four
  have hB9 : Below w.heap.size w W9 := by rw [← hW9]; exact (((B2.setCell (by simp) _).setCell (by simp) _).setCell (by simp) _).setCell (by simp) _
  clear hW9
  obtain ⟨x0, x1, x2, x3, -, -, -, -⟩ := b9
  refine bodyPost_ret (by simp [results, Tryz.results79, go_sem, x0, x1, x2, x3]; try rfl) rfl ?_
  exact ⟨rfl, hB9⟩

set_option maxRecDepth 100000 in
set_option maxHeartbeats 4000000 in
theorem said_6 (K : Int) (s S : ByteArray) (k n d E : Int) (ok : Bool) (w : World)
    (PA : Hid (∀ W : World, Pow W → Errs W → 9 ≤ W.heap.size → Calls Tryz.prog 101 #[.string s] W fun e w' => e = .returned (.tuple #[.agg #[.int .i64 k, .int .i64 n, .int .i64 d, .string S], .int .i64 E]) ∧ Below W.heap.size W w'))
    (ht : Pow w) (he : Errs w) (h8 : 9 ≤ w.heap.size) :
    Calls Tryz.prog 79 #[.int .i64 6, .string s] w fun e w' => e = .returned (.tuple #[.agg #[.int .i64 k, .int .i64 n, .int .i64 d, .string S], .bool (decide (E = 0))]) ∧ Below w.heap.size w w' := by
  have HE : Hid (Errs w) := he
  have HP : Hid (Pow w) := ht
  clear he ht
  go_enter Tryz.func79, Tryz.ntmps79
  go_wp2_with fail
  refine (PA.out _ (HP.out.below ((Below.refl _ w).alloc (Nat.le_refl _) _)) (HE.out.alloc h8 _) (by simp; omega)).mono ?_
  rintro e w1 ⟨rfl, hb1⟩
  have R1 : Hid (BlkV w1 w.heap.size 0 0 0 ⟨#[]⟩) := BlkV.below (by constructor <;> simp (maxDischargeDepth := 12) [go_sem]) hb1 (by simp)
  have B1 : Below w.heap.size w w1 := ((Below.refl _ w).alloc (Nat.le_refl _) _).trans (hb1.mono (by simp))
  have z1 : w.heap.size < w1.heap.size := by have := hb1.size; simp at this; omega
  clear hb1
  go_upto_region 8 with fail
  refine wp_world ?_
  intro W2 hW2
  have R2 : Hid (BlkV W2 w.heap.size 0 0 0 ⟨#[]⟩) := by rw [hW2]; exact R1.out.below ((Below.refl w1.heap.size w1).alloc (Nat.le_refl _) _) z1
  have V2 : Hid (BlkV W2 w1.heap.size k n d S) := by rw [hW2]; constructor <;> simp (maxDischargeDepth := 12) [go_sem]
  have B2 : Below w.heap.size w W2 := by rw [hW2]; exact B1.alloc B1.size _
  clear hW2 R1 B1 z1
  obtain ⟨r0, r1, r2, r3, r4, r5, r6, r7⟩ := R2.out
  obtain ⟨v0, v1, v2, v3, -, -, -, -⟩ := V2.out
  go_wp2
  generalize hW9 : World.setCell _ _ _ = W9
  have b9 : BlkV W9 w.heap.size k n d S := by rw [← hW9]; exact R2.out.four
  have hB9 : Below w.heap.size w W9 := by rw [← hW9]; exact (((B2.setCell (by simp) _).setCell (by simp) _).setCell (by simp) _).setCell (by simp) _
  clear hW9
  obtain ⟨x0, x1, x2, x3, -, -, -, -⟩ := b9
  refine bodyPost_ret (by simp [results, Tryz.results79, go_sem, x0, x1, x2, x3]; try rfl) rfl ?_
  exact ⟨rfl, hB9⟩

set_option maxRecDepth 100000 in
set_option maxHeartbeats 4000000 in
theorem said_7 (K : Int) (s S : ByteArray) (k n d E : Int) (ok : Bool) (w : World)
    (NU : Hid (∀ (t : ByteArray) (W : World), t.data.toList = s.data.toList.drop 1 → Pow W → Errs W → 9 ≤ W.heap.size → Calls Tryz.prog 102 #[.string t] W fun e w' => e = .returned (.tuple #[.agg #[.int .i64 k, .int .i64 n, .int .i64 d, .string S], .bool ok]) ∧ Below W.heap.size W w'))
    (ht : Pow w) (he : Errs w) (h8 : 9 ≤ w.heap.size) (hz : 1 ≤ s.size) :
    Calls Tryz.prog 79 #[.int .i64 7, .string s] w fun e w' => e = .returned (.tuple #[.agg #[.int .i64 k, .int .i64 n, .int .i64 d, .string S], .bool ok]) ∧ Below w.heap.size w w' := by
  have HE : Hid (Errs w) := he
  have HP : Hid (Pow w) := ht
  clear he ht
  go_enter Tryz.func79, Tryz.ntmps79
  have hz' : (1 : Int) ≤ s.size := by omega
  go_wp2_with fail
  refine (NU.out _ _ (ext_drop s 1 hz) (HP.out.below ((Below.refl _ w).alloc (Nat.le_refl _) _)) (HE.out.alloc h8 _) (by simp; omega)).mono ?_
  rintro e w1 ⟨rfl, hb1⟩
  have R1 : Hid (BlkV w1 w.heap.size 0 0 0 ⟨#[]⟩) := BlkV.below (by constructor <;> simp (maxDischargeDepth := 12) [go_sem]) hb1 (by simp)
  have B1 : Below w.heap.size w w1 := ((Below.refl _ w).alloc (Nat.le_refl _) _).trans (hb1.mono (by simp))
  have z1 : w.heap.size < w1.heap.size := by have := hb1.size; simp at this; omega
  clear hb1
  obtain ⟨r0, r1, r2, r3, r4, r5, r6, r7⟩ := R1.out
  go_wp2
  generalize hW9 : World.setCell _ _ _ = W9
  have b9 : BlkV W9 w.heap.size k n d S := by rw [← hW9]; exact R1.out.four
  have hB9 : Below w.heap.size w W9 := by rw [← hW9]; exact (((B1.setCell (by simp) _).setCell (by simp) _).setCell (by simp) _).setCell (by simp) _
  clear hW9
  obtain ⟨x0, x1, x2, x3, -, -, -, -⟩ := b9
  refine bodyPost_ret (by simp [results, Tryz.results79, go_sem, x0, x1, x2, x3]; try rfl) rfl ?_
  exact ⟨rfl, hB9⟩

set_option maxRecDepth 100000 in
set_option maxHeartbeats 4000000 in
theorem said_5 (K : Int) (s S : ByteArray) (k n d E : Int) (ok : Bool) (w : World)
    (IV : Hid (∀ (t : ByteArray) (W : World), t.data.toList = (s.data.toList.drop 1).take (s.size - 2) → Pow W → Errs W → 9 ≤ W.heap.size → Calls Tryz.prog 100 #[.string t] W fun e w' => e = .returned (.bool ok) ∧ Below W.heap.size W w'))
    (ht : Pow w) (he : Errs w) (h8 : 9 ≤ w.heap.size) (hz : 2 ≤ s.size) (hs : s.size ≤ 35184372088830) :
    Calls Tryz.prog 79 #[.int .i64 5, .string s] w fun e w' => e = .returned (.tuple #[.agg #[.int .i64 0, .int .i64 0, .int .i64 0, .string ⟨#[]⟩], .bool ok]) ∧ Below w.heap.size w w' := by
  have HE : Hid (Errs w) := he
  have HP : Hid (Pow w) := ht
  clear he ht
  go_enter Tryz.func79, Tryz.ntmps79
  obtain ⟨m, hm⟩ : ∃ m : Nat, s.size = m + 1 := ⟨s.size - 1, by omega⟩
  have hm1 : (1 : Int) ≤ m := by omega
  have hm2 : (m : Int) ≤ 35184372088829 := by omega
  have hm3 : (m : Int) ≤ (m : Int) + 1 := by omega
  go_wp2_with fail

  refine (IV.out _ _ (by rw [ext_mid]; congr 1; omega) (HP.out.below ((Below.refl _ w).alloc (Nat.le_refl _) _)) (HE.out.alloc h8 _) (by simp; omega)).mono ?_
  rintro e w1 ⟨rfl, hb1⟩
  have R1 : Hid (BlkV w1 w.heap.size 0 0 0 ⟨#[]⟩) := BlkV.below (by constructor <;> simp (maxDischargeDepth := 12) [go_sem]) hb1 (by simp)
  have B1 : Below w.heap.size w w1 := ((Below.refl _ w).alloc (Nat.le_refl _) _).trans (hb1.mono (by simp))
  have z1 : w.heap.size < w1.heap.size := by have := hb1.size; simp at this; omega
  clear hb1
  obtain ⟨r0, r1, r2, r3, r4, r5, r6, r7⟩ := R1.out
  go_wp2
  generalize hW9 : World.setCell _ _ _ = W9
  have b9 : BlkV W9 w.heap.size 0 0 0 ⟨#[]⟩ := by rw [← hW9]; exact R1.out.four
  have hB9 : Below w.heap.size w W9 := by rw [← hW9]; exact (((B1.setCell (by simp) _).setCell (by simp) _).setCell (by simp) _).setCell (by simp) _
  clear hW9
  obtain ⟨x0, x1, x2, x3, -, -, -, -⟩ := b9
  refine bodyPost_ret (by simp [results, Tryz.results79, go_sem, x0, x1, x2, x3]; try rfl) rfl ?_
  exact ⟨rfl, hB9⟩

/-- What a token of a kind says, and whether it may be. -/
def sdB (k : Nat) (l : List UInt8) : Val × Bool :=
  if k = 3 then (zeroV, decide (l.length ≤ 16)) else if k = 5 then (zeroV, ivB ((l.drop 1).take (l.length - 2))) else if k = 6 then ((prs l).1, decide ((prs l).2 = 0)) else if k = 7 then numB (l.drop 1) else (zeroV, true)
theorem said_any (K : Nat) (s : ByteArray) (w : World) (hs : s.size ≤ 35184372088830) (ht : Pow w) (he : Errs w) (h8 : 9 ≤ w.heap.size) (h5 : K = 5 → 2 ≤ s.size) (h7 : K = 7 → 1 ≤ s.size) :
    Calls Tryz.prog 79 #[.int .i64 K, .string s] w fun e w' => e = .returned (.tuple #[(sdB K s.data.toList).1.agg, .bool (sdB K s.data.toList).2]) ∧ Below w.heap.size w w' := by
  have hl : s.data.toList.length = s.size := by simp
  unfold sdB
  by_cases g3 : K = 3
  · subst g3
    rw [if_pos rfl, hl]
    have q := said_3 0 s s 0 0 0 0 true w ht he h8
    rw [show decide ((s.size : Int) ≤ 16) = decide (s.size ≤ 16) from decide_eq_decide.mpr (by omega)] at q
    exact q
  rw [if_neg g3]
  by_cases g5 : K = 5
  · subst g5
    rw [if_pos rfl, hl]
    have IV : ∀ (t : ByteArray) (W : World), t.data.toList = (s.data.toList.drop 1).take (s.size - 2) → Pow W → Errs W → 9 ≤ W.heap.size → Calls Tryz.prog 100 #[.string t] W fun e w' => e = .returned (.bool (ivB ((s.data.toList.drop 1).take (s.size - 2)))) ∧ Below W.heap.size W w' := by
      intro t W e1 q1 q2 q3
      have hlt : t.data.toList.length = t.size := by simp
      rw [e1] at hlt
      simp at hlt
      have q := iv_any t W (by omega) q1 q2 q3
      rw [e1] at q
      exact q
    exact said_5 0 s s 0 0 0 0 _ w IV ht he h8 (h5 rfl) hs
  rw [if_neg g5]
  by_cases g6 : K = 6
  · subst g6
    rw [if_pos rfl]
    exact said_6 0 s _ _ _ _ _ true w (fun W q1 q2 q3 => parse_any s W hs q1 q2 q3) ht he h8
  rw [if_neg g6]
  by_cases g7 : K = 7
  · subst g7
    rw [if_pos rfl]
    have NU : ∀ (t : ByteArray) (W : World), t.data.toList = s.data.toList.drop 1 → Pow W → Errs W → 9 ≤ W.heap.size → Calls Tryz.prog 102 #[.string t] W fun e w' => e = .returned (.tuple #[.agg #[.int .i64 (numB (s.data.toList.drop 1)).1.k, .int .i64 (numB (s.data.toList.drop 1)).1.n, .int .i64 (numB (s.data.toList.drop 1)).1.d, .string (numB (s.data.toList.drop 1)).1.s], .bool (numB (s.data.toList.drop 1)).2]) ∧ Below W.heap.size W w' := by
      intro t W e1 q1 q2 q3
      have hlt : t.data.toList.length = t.size := by simp
      rw [e1] at hlt
      simp at hlt
      have q := lnumber_any t W (by omega) q1 q2 q3
      rw [e1] at q
      exact q
    exact said_7 0 s _ _ _ _ 0 _ w NU ht he h8 (h7 rfl)
  rw [if_neg g7]
  exact said_0 K s s 0 0 0 0 true w ht he h8 (by omega) (by omega) (by omega) (by omega)
end Go.Proofs.YticmebamclacaabGreatDoor

namespace Go.Proofs.YticmebamclacaabGreatDoor
open Go.RowKit Go.Shelf LX
set_option linter.unusedVariables false

theorem sclone_any (s : ByteArray) (w : World) (hs : s.size ≤ 281474976710656) :
    Calls Tryz.prog 78 #[.string s] w fun e w' => e = .returned (.string s) ∧ Below w.heap.size w w' := by
  go_enter Tryz.func78, Tryz.ntmps78
  go_wp2_with fail
  refine (Tryz.stringslite_Clone s _ hs).mono ?_
  rintro e w1 ⟨rfl, hb⟩
  go_wp2
  go_ret
  exact ⟨rfl, hb⟩
/-- A block that holds a token. -/
structure BlkT (W : World) (B : Nat) (K at_ : Int) (x : ByteArray) (k n d : Int) (s : ByteArray) : Prop where
  c0 : W.cell? ⟨B, 0, none⟩ = some (.int .i64 K)
  c1 : W.cell? ⟨B, 1, none⟩ = some (.int .i64 at_)
  c2 : W.cell? ⟨B, 2, none⟩ = some (.string x)
  c3 : W.cell? ⟨B, 3, none⟩ = some (.int .i64 k)
  c4 : W.cell? ⟨B, 4, none⟩ = some (.int .i64 n)
  c5 : W.cell? ⟨B, 5, none⟩ = some (.int .i64 d)
  c6 : W.cell? ⟨B, 6, none⟩ = some (.string s)
  f0 : W.frozen? ⟨B, 0, none⟩ = false
  f1 : W.frozen? ⟨B, 1, none⟩ = false
  f2 : W.frozen? ⟨B, 2, none⟩ = false
  f3 : W.frozen? ⟨B, 3, none⟩ = false
  f4 : W.frozen? ⟨B, 4, none⟩ = false
  f5 : W.frozen? ⟨B, 5, none⟩ = false
  f6 : W.frozen? ⟨B, 6, none⟩ = false
theorem BlkT.below {W W' : World} {B m : Nat} {K at_ k n d : Int} {x s : ByteArray} (h : BlkT W B K at_ x k n d s) (hb : Below m W W') (hB : B < m) : BlkT W' B K at_ x k n d s :=
  ⟨(hb.cell (p := ⟨B, 0, none⟩) hB).trans h.c0, (hb.cell (p := ⟨B, 1, none⟩) hB).trans h.c1, (hb.cell (p := ⟨B, 2, none⟩) hB).trans h.c2, (hb.cell (p := ⟨B, 3, none⟩) hB).trans h.c3, (hb.cell (p := ⟨B, 4, none⟩) hB).trans h.c4, (hb.cell (p := ⟨B, 5, none⟩) hB).trans h.c5, (hb.cell (p := ⟨B, 6, none⟩) hB).trans h.c6,
   (hb.frozen (p := ⟨B, 0, none⟩) hB).trans h.f0, (hb.frozen (p := ⟨B, 1, none⟩) hB).trans h.f1, (hb.frozen (p := ⟨B, 2, none⟩) hB).trans h.f2, (hb.frozen (p := ⟨B, 3, none⟩) hB).trans h.f3, (hb.frozen (p := ⟨B, 4, none⟩) hB).trans h.f4, (hb.frozen (p := ⟨B, 5, none⟩) hB).trans h.f5, (hb.frozen (p := ⟨B, 6, none⟩) hB).trans h.f6⟩
theorem BlkT.seven {W : World} {B : Nat} {K at_ k n d K' at' k' n' d' : Int} {x s x' s' : ByteArray} (h : BlkT W B K at_ x k n d s) : BlkT (((((((W.setCell ⟨B, 0, none⟩ (.int .i64 K')).setCell ⟨B, 1, none⟩ (.int .i64 at')).setCell ⟨B, 2, none⟩ (.string x')).setCell ⟨B, 3, none⟩ (.int .i64 k')).setCell ⟨B, 4, none⟩ (.int .i64 n')).setCell ⟨B, 5, none⟩ (.int .i64 d')).setCell ⟨B, 6, none⟩ (.string s')) B K' at' x' k' n' d' s' := by
  obtain ⟨c0, c1, c2, c3, c4, c5, c6, f0, f1, f2, f3, f4, f5, f6⟩ := h
  constructor <;> simp (maxDischargeDepth := 16) [go_sem, c0, c1, c2, c3, c4, c5, c6, f0, f1, f2, f3, f4, f5, f6]
theorem below7 {B0 B : Nat} {w W : World} (h : Below B0 w W) (hB : B0 ≤ B) (v0 v1 v2 v3 v4 v5 v6 : Value) : Below B0 w (((((((W.setCell ⟨B, 0, none⟩ v0).setCell ⟨B, 1, none⟩ v1).setCell ⟨B, 2, none⟩ v2).setCell ⟨B, 3, none⟩ v3).setCell ⟨B, 4, none⟩ v4).setCell ⟨B, 5, none⟩ v5).setCell ⟨B, 6, none⟩ v6) :=
  ((((((h.setCell hB _).setCell hB _).setCell hB _).setCell hB _).setCell hB _).setCell hB _).setCell hB _
set_option maxRecDepth 100000 in
set_option maxHeartbeats 4000000 in
theorem token_no (s : ByteArray) (i : Nat) (E : Int) (w : World)
    (BH : Hid (∀ W : World, Calls Tryz.prog 77 #[.string s, .int .i64 i] W fun e w' => e = .returned (.tuple #[.int .i64 0, .int .i64 E]) ∧ w' = W)) :
    Calls Tryz.prog 65 #[.string s, .int .i64 i] w fun e w' => e = .returned (.tuple #[.agg #[.int .i64 0, .int .i64 0, .string ⟨#[]⟩, .int .i64 0, .int .i64 0, .int .i64 0, .string ⟨#[]⟩], .bool false]) ∧ Below w.heap.size w w' := by
  go_enter Tryz.func65, Tryz.ntmps65
  go_wp2_with fail
  refine (BH.out _).mono ?_
  rintro e w1 ⟨rfl, rfl⟩
  go_wp2
  refine bodyPost_ret (by simp [results, Tryz.results65, go_sem]; try rfl) rfl ?_
  exact ⟨rfl, (Below.refl _ w).alloc (Nat.le_refl _) _⟩
set_option maxRecDepth 100000 in
set_option maxHeartbeats 4000000 in
theorem token_yes (s x S : ByteArray) (i m : Nat) (K k n d : Int) (ok : Bool) (w : World) (hK : ¬ K = 0) (him : i ≤ m) (hm : m ≤ s.size) (hs : s.size ≤ 16384) (hx : s.extract i m = x)
    (BH : Hid (∀ W : World, Calls Tryz.prog 77 #[.string s, .int .i64 i] W fun e w' => e = .returned (.tuple #[.int .i64 K, .int .i64 m]) ∧ w' = W))
    (CL : Hid (∀ W : World, Calls Tryz.prog 78 #[.string x] W fun e w' => e = .returned (.string x) ∧ Below W.heap.size W w'))
    (SA : Hid (∀ W : World, Pow W → Errs W → 9 ≤ W.heap.size → Calls Tryz.prog 79 #[.int .i64 K, .string x] W fun e w' => e = .returned (.tuple #[.agg #[.int .i64 k, .int .i64 n, .int .i64 d, .string S], .bool ok]) ∧ Below W.heap.size W w'))
    (ht : Pow w) (he : Errs w) (h8 : 9 ≤ w.heap.size) :
    Calls Tryz.prog 65 #[.string s, .int .i64 i] w fun e w' => e = .returned (.tuple #[.agg #[.int .i64 K, .int .i64 i, .string x, .int .i64 k, .int .i64 n, .int .i64 d, .string S], .bool ok]) ∧ Below w.heap.size w w' := by
  have HE : Hid (Errs w) := he
  have HP : Hid (Pow w) := ht
  clear he ht
  have him' : (i : Int) ≤ m := by omega
  have hm' : (m : Int) ≤ s.size := by omega
  go_enter Tryz.func65, Tryz.ntmps65
  go_wp2_with fail
  refine (BH.out _).mono ?_
  rintro e w1 ⟨rfl, rfl⟩
  go_wp2_with fail
  refine (CL.out _).mono ?_
  rintro e w1 ⟨rfl, hb1⟩
  have R1 : Hid (BlkT w1 w.heap.size 0 0 ⟨#[]⟩ 0 0 0 ⟨#[]⟩) := BlkT.below (by constructor <;> simp (maxDischargeDepth := 16) [go_sem]) hb1 (by simp)
  have B1 : Below w.heap.size w w1 := ((Below.refl _ w).alloc (Nat.le_refl _) _).trans (hb1.mono (by simp))
  have z1 : w.heap.size < w1.heap.size := by have := hb1.size; simp at this; omega
  clear hb1
  go_wp2_with fail
  refine (SA.out _ (HP.out.below B1) (HE.out.below B1 h8) (by omega)).mono ?_
  rintro e w2 ⟨rfl, hb2⟩
  have R2 : Hid (BlkT w2 w.heap.size 0 0 ⟨#[]⟩ 0 0 0 ⟨#[]⟩) := R1.out.below hb2 z1
  have B2 : Below w.heap.size w w2 := B1.trans (hb2.mono B1.size)
  have z2 : w.heap.size < w2.heap.size := by have := hb2.size; omega
  clear R1 B1 hb2
  go_upto_region 6 with fail
  refine wp_world ?_
  intro W3 hW3
  have R3 : Hid (BlkT W3 w.heap.size 0 0 ⟨#[]⟩ 0 0 0 ⟨#[]⟩) := by rw [hW3]; exact R2.out.below ((Below.refl w2.heap.size w2).alloc (Nat.le_refl _) _) z2
  have V3 : Hid (BlkV W3 w2.heap.size k n d S) := by rw [hW3]; constructor <;> simp (maxDischargeDepth := 12) [go_sem]
  have B3 : Below w.heap.size w W3 := by rw [hW3]; exact B2.alloc B2.size _
  clear hW3 R2 B2
  obtain ⟨r0, r1, r2, r3, r4, r5, r6, q0, q1, q2, q3, q4, q5, q6⟩ := R3.out
  obtain ⟨v0, v1, v2, v3, -, -, -, -⟩ := V3.out
  go_wp2
  generalize hW9 : World.setCell _ _ _ = W9
  have b9 : BlkT W9 w.heap.size K i x k n d S := by rw [← hW9]; exact R3.out.seven
  have hB9 : Below w.heap.size w W9 := by rw [← hW9]; exact below7 B3 (Nat.le_refl _) _ _ _ _ _ _ _
  clear hW9
  obtain ⟨x0, x1, x2, x3, x4, x5, x6, -, -, -, -, -, -, -⟩ := b9
  refine bodyPost_ret (by simp [results, Tryz.results65, go_sem, x0, x1, x2, x3, x4, x5, x6]; try rfl) rfl ?_
  exact ⟨rfl, hB9⟩
theorem beh_5 (l : List UInt8) (h : (beh l).1 = 5) : 2 ≤ (beh l).2 := by
  cases l with
  | nil => simp [beh] at h
  | cons c t =>
    revert h
    rw [beh_cons]
    split
    · simp
    split
    · simp
    split
    · simp
    split
    · simp
    split
    · simp
    split
    · simp
    split
    · cases hb : brk t with
      | none => simp
      | some k => intro _; have := brk_le t k hb; simp; omega
    split
    · cases hb : qend false t with
      | none => simp
      | some k => simp
    split
    · simp
    · simp
/-- token at every place of a text: the value, and whether there is a token. -/
theorem token_any (s : ByteArray) (i : Nat) (w : World) (hs : s.size ≤ 16384) (hi : i < s.size) (ht : Pow w) (he : Errs w) (h8 : 9 ≤ w.heap.size) :
    Calls Tryz.prog 65 #[.string s, .int .i64 i] w fun e w' => ∃ (K at_ k n d : Int) (x S : ByteArray) (ok : Bool), e = .returned (.tuple #[.agg #[.int .i64 K, .int .i64 at_, .string x, .int .i64 k, .int .i64 n, .int .i64 d, .string S], .bool ok]) ∧ Below w.heap.size w w' ∧
      Hid ((ok = true ↔ fine sdB (s.data.toList.drop i)) ∧ (ok = true → tokAt sdB (s.data.toList.drop i) i = ⟨K.toNat, at_.toNat, x.data.toList, ⟨k, n, d, S⟩⟩ ∧ K = K.toNat ∧ at_ = i ∧ 1 ≤ x.size ∧ i + x.size ≤ s.size)) := by
  have BH := fun (W : World) => behind_any s i W hs hi
  have hl : s.data.toList.length = s.size := by simp
  obtain ⟨b, hb⟩ : ∃ b, beh (s.data.toList.drop i) = b := ⟨_, rfl⟩
  obtain ⟨K, n⟩ := b
  rw [hb] at BH
  by_cases hK : K = 0
  · subst hK
    refine (token_no s i _ w BH).mono ?_
    rintro e w' ⟨rfl, hB⟩
    refine ⟨_, _, _, _, _, _, _, _, rfl, hB, ?_, ?_⟩
    · constructor
      · intro h; cases h
      · intro h; exact absurd (by rw [hb]) h.1
    · intro h; cases h
  · have hle := beh_le (s.data.toList.drop i) (by rw [hb]; exact hK)
    rw [hb] at hle
    simp only [List.length_drop, hl] at hle
    dsimp only at BH
    rw [if_neg hK] at BH
    have hx : s.extract i (i + n) = ⟨((s.data.toList.drop i).take n).toArray⟩ := ba_eq (by rw [ext_mid, Nat.add_sub_cancel_left])
    have hxl : (⟨((s.data.toList.drop i).take n).toArray⟩ : ByteArray).size = n := by
      show ((s.data.toList.drop i).take n).toArray.size = n
      simp
      omega
    have two : K = 5 → 2 ≤ n := by
      intro h5
      have := beh_5 (s.data.toList.drop i) (by rw [hb]; exact h5)
      rw [hb] at this
      exact this
    refine (token_yes s _ (sdB K ((s.data.toList.drop i).take n)).1.s i (i + n) K (sdB K ((s.data.toList.drop i).take n)).1.k (sdB K ((s.data.toList.drop i).take n)).1.n (sdB K ((s.data.toList.drop i).take n)).1.d (sdB K ((s.data.toList.drop i).take n)).2 w (by omega) (by omega) (by omega) hs hx BH (fun W => sclone_any _ W (by rw [hxl]; omega)) (fun W q1 q2 q3 => by
      have q := said_any K ⟨((s.data.toList.drop i).take n).toArray⟩ W (by rw [hxl]; omega) q1 q2 q3 (by rw [hxl]; exact two) (by rw [hxl]; intro _; omega)
      exact q) ht he h8).mono ?_
    rintro e w' ⟨rfl, hB⟩
    refine ⟨_, _, _, _, _, _, _, _, rfl, hB, ?_, ?_⟩
    · unfold fine
      rw [hb]
      exact ⟨fun h => ⟨hK, h⟩, fun h => h.2⟩
    · intro _
      refine ⟨?_, rfl, rfl, by rw [hxl]; omega, by rw [hxl]; omega⟩
      unfold tokAt
      rw [hb]
      rfl
end Go.Proofs.YticmebamclacaabGreatDoor

namespace Go.Proofs.YticmebamclacaabGreatDoor
open Go.RowKit Go.Shelf LX
set_option linter.unusedVariables false

theorem own_bel7 {w w' : World} {B e size n : Nat} {v : Value} {xs : List Value} (h : w.ownsRow B e size v n xs) (hb : Below w.heap.size w w') : w'.ownsRow B e size v n xs :=
  World.ownsRow.kept h (row := none) ⟨hb.os, hb.tape, hb.output, hb.size, fun k hk _ => hb.block k hk⟩ (by cases hv : v.ownBlock with | none => exact Or.inl rfl | some k => exact Or.inr (by intro h; cases h))
theorem grownBy_setCell (w : World) (b i : Nat) (v : Value) : w.grownBy (w.setCell ⟨b, i, none⟩ v) (some b) :=
  ⟨rfl, rfl, rfl, by simp [World.setCell], fun k _ hk => Below.heap_setCell _ _ _ _ (fun e => hk (by simp [e]))⟩
theorem own_set {w : World} {B e size n T j : Nat} {v u : Value} {xs : List Value} (h : w.ownsRow B e size v n xs) (hT : T < B) : (w.setCell ⟨T, j, none⟩ u).ownsRow B e size v n xs := by
  refine World.ownsRow.kept h (grownBy_setCell w T j u) ?_
  by_cases hv : v.ownBlock = none
  · exact Or.inl hv
  · refine Or.inr fun e => ?_
    have := (World.ownsRow.lt h T e).1
    omega
/-- The cells of a token. -/
def tcells (t : Tok Val) : List Value := [.int .i64 t.k, .int .i64 t.at_, .string ⟨t.x.toArray⟩, .int .i64 t.v.k, .int .i64 t.v.n, .int .i64 t.v.d, .string t.v.s]
def flatT (L : List (Tok Val)) : List Value := L.flatMap tcells
theorem flatT_more (L : List (Tok Val)) (t : Tok Val) : flatT L ++ tcells t = flatT (L ++ [t]) := by simp [flatT]
/-- A slice of tokens of the call's own. -/
def OwnT7 (B : Nat) (v : Value) (L : List (Tok Val)) (w : World) : Prop := w.ownsRow B 93 7 v L.length (flatT L)
theorem inT : (Tryz.prog.info? 93).map (fun i => (i.zero, i.size, i.bytes)) = some (some (.agg #[.int .i64 0, .int .i64 0, .string ⟨#[]⟩, .int .i64 0, .int .i64 0, .int .i64 0, .string ⟨#[]⟩]), 7, 72) := by kernel_rfl
/-- A frame of Tokens. -/
structure FrK (a : Act) (s : ByteArray) (v : Value) (B p : Nat) : Prop where
  d : a.defers = []
  n : a.tmps.size = 47
  x0 : a.tmps[0]? = some (.string s)
  x5 : a.tmps[5]? = some v
  x6 : a.tmps[6]? = some (.pointer (some ⟨B, 0, none⟩))
  x8 : a.tmps[8]? = some (.int .i64 p)
theorem FrK.lit {a : Act} {s : ByteArray} {v : Value} {B p : Nat} (h : FrK a s v B p) : ∃ u : Nat → Value, a = { tmps := #[.string s, u 1, u 2, u 3, u 4, v, .pointer (some ⟨B, 0, none⟩), u 7, .int .i64 (p : Nat), u 9, u 10, u 11, u 12, u 13, u 14, u 15, u 16, u 17, u 18, u 19, u 20, u 21, u 22, u 23, u 24, u 25, u 26, u 27, u 28, u 29, u 30, u 31, u 32, u 33, u 34, u 35, u 36, u 37, u 38, u 39, u 40, u 41, u 42, u 43, u 44, u 45, u 46], defers := [] } := by
  obtain ⟨t, d⟩ := a
  obtain ⟨h1, h2, h3, h4, h5, h6⟩ := h
  dsimp only at h1 h2 h3 h4 h5 h6
  subst h1
  obtain ⟨l⟩ := t
  have h2' : l.length = 47 := by simpa using h2
  have hl := list_of 47 l h2'
  have get : ∀ (j : Nat) (y : Value), (Array.mk l)[j]? = some y → l.getD j undef = y := by
    intro j y hy
    have : l[j]? = some y := by simpa using hy
    simp [List.getD, this]
  have e0 := get _ _ h3
  have e5 := get _ _ h4
  have e6 := get _ _ h5
  have e8 := get _ _ h6
  refine ⟨fun i => l.getD i undef, ?_⟩
  rw [← e0, ← e5, ← e6, ← e8]
  congr 1
  exact congrArg Array.mk hl
/-- What has been cut so far, and what is left. -/
def Left (l : List UInt8) (L : List (Tok Val)) (p : Nat) : Prop := T sdB l 0 = (L ++ (T sdB (l.drop p) p).1, (T sdB (l.drop p) p).2)

set_option maxRecDepth 100000 in
set_option maxHeartbeats 8000000 in
theorem tokens_run (s : ByteArray) (w : World) (hs : s.size ≤ 16384) (ht : Pow w) (he : Errs w) (h8 : 9 ≤ w.heap.size) :
    Calls Tryz.prog 46 #[.string s] w fun e w' => Below w.heap.size w w' ∧ ((∃ p : Nat, (T sdB s.data.toList 0).2 = some p ∧ e = .returned (.tuple #[.slice none 0 0, .int .i64 50, .int .i64 p])) ∨ ((T sdB s.data.toList 0).2 = none ∧ ∃ v, e = .returned (.tuple #[v, .int .i64 0, .int .i64 0]) ∧ OwnT7 (w.heap.size + 1) v (T sdB s.data.toList 0).1 w')) := by
  obtain ⟨i0, hi, hz0, hz1, hz2⟩ := info_parts inT
  have hl : s.data.toList.length = s.size := by simp
  have hsz : ¬ (16384 : Int) < s.size := by omega
  have HE : Hid (Errs w) := he
  have HP : Hid (Pow w) := ht
  clear he ht
  have TK : Hid (∀ (i : Nat) (W : World), i < s.size → Pow W → Errs W → 9 ≤ W.heap.size → Calls Tryz.prog 65 #[.string s, .int .i64 i] W fun e w' => ∃ (K at_ k n d : Int) (x S : ByteArray) (ok : Bool), e = .returned (.tuple #[.agg #[.int .i64 K, .int .i64 at_, .string x, .int .i64 k, .int .i64 n, .int .i64 d, .string S], .bool ok]) ∧ Below W.heap.size W w' ∧ Hid ((ok = true ↔ fine sdB (s.data.toList.drop i)) ∧ (ok = true → tokAt sdB (s.data.toList.drop i) i = ⟨K.toNat, at_.toNat, x.data.toList, ⟨k, n, d, S⟩⟩ ∧ K = K.toNat ∧ at_ = i ∧ 1 ≤ x.size ∧ i + x.size ≤ s.size))) := fun i W q1 q2 q3 q4 => token_any s i W hs q1 q2 q3 q4
  go_enter Tryz.func46, Tryz.ntmps46
  go_wp2
  refine wp_scope_gotos (fun l a W => l = 0 ∧ ∃ (p : Nat) (v : Value) (L : List (Tok Val)), FrK a s v w.heap.size p ∧ p ≤ s.size ∧ L.length ≤ p ∧ Below w.heap.size w W ∧ w.heap.size < W.heap.size ∧ Hid (∃ (K at_ k n d : Int) (x S : ByteArray), BlkT W w.heap.size K at_ x k n d S) ∧ Hid (OwnT7 (w.heap.size + 1) v L W) ∧ Hid (Left s.data.toList L p)) (fun _ a _ => (s.size - intAt a 8).toNat) ?_ ?_
  · rintro l a W ⟨rfl, p, v, L, hF, hp, hLp, hB, hz, hT, hO, hR⟩
    obtain ⟨u, rfl⟩ := hF.lit
    clear hF
    refine ⟨_, rfl, ?_⟩
    by_cases hn : p = s.size
    · have hn' : (p : Int) = s.size := by omega
      go_wp2
      simp only [Exit.jumps]
      refine bodyPost_ret (by simp [results, Tryz.results46, go_sem]; try rfl) rfl ?_
      have hR' := hR.out
      unfold Left at hR'
      rw [List.drop_eq_nil_of_le (by omega), T_nil] at hR'
      refine ⟨hB, .inr ⟨by rw [hR'], v, rfl, ?_⟩⟩
      rw [hR']
      simpa using hO.out
    · have hlt : p < s.size := by omega
      have hn' : ¬ (p : Int) = s.size := by omega
      have hdr := drop_at s p hlt
      have hR' : Hid (T sdB s.data.toList 0 = (L ++ (T sdB (s[p] :: s.data.toList.drop (p + 1)) p).1, (T sdB (s[p] :: s.data.toList.drop (p + 1)) p).2)) := by
        have := hR.out
        unfold Left at this
        rw [hdr] at this
        exact this
      clear hR
      by_cases h32 : s[p].toNat = 32
      · have h32' : ((s[p].toNat : Nat) : Int) = 32 := by omega
        have hbk : blk s[p] = true := by simp [blk, h32]
        have hb32 : ((s[p].toNat : Int) == 32) = true := by simpa using h32'
        have hR2 : Hid (Left s.data.toList L (p + 1)) := by
          have := hR'.out
          rw [T_blank sdB _ p hbk] at this
          exact this
        clear hR' hdr
        go_wp2
        go_step3
        refine ⟨⟨rfl, p + 1, v, L, ⟨rfl, rfl, rfl, rfl, rfl, rfl⟩, by omega, by omega, hB, hz, hT, hO, hR2⟩, ?_⟩
        simp [intAt]
        omega
      · have h32' : ¬ ((s[p].toNat : Nat) : Int) = 32 := by omega
        by_cases h10 : s[p].toNat = 10
        · have h10' : ((s[p].toNat : Nat) : Int) = 10 := by omega
          have hbk : blk s[p] = true := by simp [blk, h10]
          have hb10 : ((s[p].toNat : Int) == 10) = true := by simpa using h10'
          have hR2 : Hid (Left s.data.toList L (p + 1)) := by
            have := hR'.out
            rw [T_blank sdB _ p hbk] at this
            exact this
          clear hR' hdr
          go_wp2
          go_step3
          refine ⟨⟨rfl, p + 1, v, L, ⟨rfl, rfl, rfl, rfl, rfl, rfl⟩, by omega, by omega, hB, hz, hT, hO, hR2⟩, ?_⟩
          simp [intAt]
          omega
        · have h10' : ¬ ((s[p].toNat : Nat) : Int) = 10 := by omega
          have hbk : blk s[p] = false := by simp [blk, h10, h32]
          have hb32 : ((s[p].toNat : Int) == 32) = false := by simpa using h32'
          have hb10 : ((s[p].toNat : Int) == 10) = false := by simpa using h10'
          go_wp2_with fail
          refine (TK.out p W hlt (HP.out.below hB) (HE.out.below hB h8) (by omega)).mono ?_
          rintro e w1 ⟨K, at_, k, n, d, x, S, ok, rfl, hb1, hk⟩
          obtain ⟨K0, at0, k0, n0, d0, x0, S0, hT0⟩ := hT.out
          have R1 : Hid (BlkT w1 w.heap.size K0 at0 x0 k0 n0 d0 S0) := hT0.below hb1 hz
          have B1 : Below w.heap.size w w1 := hB.trans (hb1.mono hB.size)
          have O1 : Hid (OwnT7 (w.heap.size + 1) v L w1) := own_bel7 hO.out hb1
          have z1 : w.heap.size < w1.heap.size := by have := hb1.size; omega
          clear hT hT0 hO hb1 hB hz
          obtain ⟨r0, r1, r2, r3, r4, r5, r6, q0, q1, q2, q3, q4, q5, q6⟩ := R1.out
          go_upto_region 12 with fail
          refine wp_world ?_
          intro W2 hW2
          have R2 : Hid (BlkT W2 w.heap.size K at_ x k n d S) := by rw [hW2]; exact R1.out.seven
          have B2 : Below w.heap.size w W2 := by rw [hW2]; exact below7 B1 (Nat.le_refl _) _ _ _ _ _ _ _
          have O2 : Hid (OwnT7 (w.heap.size + 1) v L W2) := by rw [hW2]; exact own_set (own_set (own_set (own_set (own_set (own_set (own_set O1.out (by omega)) (by omega)) (by omega)) (by omega)) (by omega)) (by omega)) (by omega)
          have z2 : w.heap.size < W2.heap.size := by rw [hW2]; simpa using z1
          clear hW2 R1 B1 O1 z1 r0 r1 r2 r3 r4 r5 r6 q0 q1 q2 q3 q4 q5 q6
          cases ok
          · have hnf : ¬ fine sdB (s[p] :: s.data.toList.drop (p + 1)) := by
              rw [← hdr]; intro h; have := hk.out.1.2 h; cases this
            have hR2 := hR'.out
            rw [T_none sdB p hbk hnf] at hR2
            go_wp2
            simp only [Exit.jumps]
            refine bodyPost_ret (by simp [results, Tryz.results46, go_sem]; try rfl) rfl ?_
            exact ⟨B2, .inl ⟨p, by rw [hR2], rfl⟩⟩
          · obtain ⟨k1, k2, k3, k4, k5⟩ := hk.out.2 rfl
            have hf : fine sdB (s[p] :: s.data.toList.drop (p + 1)) := by rw [← hdr]; exact hk.out.1.1 rfl
            have hxl : x.data.toList.length = x.size := by simp
            have hbn : (beh (s.data.toList.drop p)).2 = x.size := by
              have h1 : (tokAt sdB (s.data.toList.drop p) p).x.length = (beh (s.data.toList.drop p)).2 := by
                have := beh_le (s.data.toList.drop p) (by rw [hdr]; exact hf.1)
                show ((s.data.toList.drop p).take _).length = _
                simp at this ⊢
                omega
              rw [k1] at h1
              rw [← h1]; exact hxl
            have hR2 : Hid (Left s.data.toList (L ++ [⟨K.toNat, at_.toNat, x.data.toList, ⟨k, n, d, S⟩⟩]) (p + x.size)) := by
              have h := hR'.out
              rw [T_tok sdB p hbk hf, ← hdr, k1, hbn, List.drop_drop] at h
              show T sdB _ 0 = _
              rw [h]
              simp
            have hnews : Hid ([.int .i64 K, .int .i64 at_, .string x, .int .i64 k, .int .i64 n, .int .i64 d, .string S] = tcells ⟨K.toNat, at_.toNat, x.data.toList, ⟨k, n, d, S⟩⟩) := by
              show _ = [Value.int .i64 (K.toNat : Int), .int .i64 (at_.toNat : Int), .string ⟨x.data.toList.toArray⟩, .int .i64 k, .int .i64 n, .int .i64 d, .string S]
              rw [← k2, ← show at_ = at_.toNat by omega]
            clear hk hR' hf hdr hbn k1 k2 k3
            obtain ⟨r0, r1, r2, r3, r4, r5, r6, q0, q1, q2, q3, q4, q5, q6⟩ := R2.out
            have HK : Hid (∀ q, v.ownBlock = some q → w.heap.size + 1 ≤ q) := fun q hq => (World.ownsRow.lt O2.out q hq).1
            go_wp2_with (at_builtin; refine wpList_append_own _ rfl (.tmp 38) (.tmp 40) 81 rfl (w.heap.size + 1) 93 i0 (.agg #[.int .i64 0, .int .i64 0, .string ⟨#[]⟩, .int .i64 0, .int .i64 0, .int .i64 0, .string ⟨#[]⟩]) 7 72 Tryz.underlying81 hi hz0 hz1 hz2 rfl (by decide) _ _ _ rfl (World.ownsRow.alloc O2.out _) ⟨W2.heap.size, 0, none⟩ 1 1 [.int .i64 K, .int .i64 at_, .string x, .int .i64 k, .int .i64 n, .int .i64 d, .string S] rfl rfl ?c1 ?c2 (by unfold maxLen; omega) (by omega) (by simp; omega) ?grow)
            case c1 => (intro j u hj; rw [Addr.add_lit]; (rcases j with _ | _ | _ | _ | _ | _ | _ | j) <;> simp at hj <;> subst hj <;> simp (maxDischargeDepth := 12) [go_sem])
            case c2 => (intro u hu; simp at hu; rcases hu with rfl | rfl | rfl | rfl | rfl | rfl | rfl <;> rfl)
            case grow =>
              intro v' w3 h2 h3 _
              have O3 : Hid (OwnT7 (w.heap.size + 1) v' (L ++ [⟨K.toNat, at_.toNat, x.data.toList, ⟨k, n, d, S⟩⟩]) w3) := by
                show w3.ownsRow _ _ _ _ _ _
                rw [← flatT_more, ← hnews.out, List.length_append]
                exact h2
              have G3 : Below (w.heap.size + 1) W2 w3 := Below.grown ((Below.refl _ W2).alloc (by omega) _) h3 (by simp; omega) HK.out
              have R3 : Hid (BlkT w3 w.heap.size K at_ x k n d S) := R2.out.below G3 (by omega)
              have B3 : Below w.heap.size w w3 := B2.trans (G3.mono (by omega))
              have z3 : w.heap.size < w3.heap.size := by have := G3.size; omega
              clear h2 h3 G3 HK O2 R2 B2 r0 r1 r2 r3 r4 r5 r6 q0 q1 q2 q3 q4 q5 q6 hnews
              obtain ⟨r0, r1, r2, r3, r4, r5, r6, q0, q1, q2, q3, q4, q5, q6⟩ := R3.out
              have hxs : (x.size : Int) ≤ 16384 := by omega
              go_wp2
              go_step3
              refine ⟨⟨rfl, p + x.size, v', _, ⟨rfl, rfl, rfl, rfl, rfl, rfl⟩, by omega, by simp; omega, B3, z3, ⟨_, _, _, _, _, _, _, R3.out⟩, O3, hR2⟩, ?_⟩
              simp [intAt]
              omega
  · intro PS
    go_wp2
    rename_i hK
    refine wp_label (hK _ _ (PS 0 _ _ _ ⟨rfl, 0, .slice none 0 0, [], ⟨rfl, rfl, rfl, rfl, rfl, rfl⟩, Nat.zero_le _, Nat.le_refl _, (Below.refl _ w).alloc (Nat.le_refl _) _, by simp, ⟨0, 0, 0, 0, 0, ⟨#[]⟩, ⟨#[]⟩, ?_⟩, ⟨rfl, .inl ⟨rfl, rfl⟩⟩, ?_⟩ rfl))
    · constructor <;> simp (maxDischargeDepth := 16) [go_sem]
    · show T sdB _ 0 = _
      simp

end Go.Proofs.YticmebamclacaabGreatDoor

namespace Go.Proofs.YticmebamclacaabGreatDoor
open Go.RowKit LX Go.Shelf
set_option linter.unusedVariables false

/-- A token's cells. -/
def TokC (w : World) (b o : Nat) (t : Tok Val) : Prop := w.cell? ⟨b, o, none⟩ = some (.int .i64 t.k) ∧ w.cell? ⟨b, o + 1, none⟩ = some (.int .i64 t.at_) ∧ w.cell? ⟨b, o + 2, none⟩ = some (.string ⟨t.x.toArray⟩) ∧ w.cell? ⟨b, o + 3, none⟩ = some (.int .i64 t.v.k) ∧ w.cell? ⟨b, o + 4, none⟩ = some (.int .i64 t.v.n) ∧ w.cell? ⟨b, o + 5, none⟩ = some (.int .i64 t.v.d) ∧ w.cell? ⟨b, o + 6, none⟩ = some (.string t.v.s)
theorem TokC.below {w w' : World} {b o B : Nat} {t : Tok Val} (h : TokC w b o t) (hb : Below B w w') (hB : b < B) : TokC w' b o t := by
  obtain ⟨h0, h1, h2, h3, h4, h5, h6⟩ := h
  exact ⟨(hb.cell (p := ⟨b, _, none⟩) hB).trans h0, (hb.cell (p := ⟨b, _, none⟩) hB).trans h1, (hb.cell (p := ⟨b, _, none⟩) hB).trans h2, (hb.cell (p := ⟨b, _, none⟩) hB).trans h3, (hb.cell (p := ⟨b, _, none⟩) hB).trans h4, (hb.cell (p := ⟨b, _, none⟩) hB).trans h5, (hb.cell (p := ⟨b, _, none⟩) hB).trans h6⟩
/-- Tokens lie in a slice. -/
def ToksAt (w : World) (v : Value) (L : List (Tok Val)) : Prop := ∃ p c, v = .slice p L.length c ∧ L.length ≤ c ∧ (L = [] ∨ ∃ b off, p = some ⟨b, off, none⟩ ∧ b < w.heap.size ∧ ∀ i (h : i < L.length), TokC w b (off + i * 7) L[i])
theorem ToksAt.below {w w' : World} {v : Value} {L : List (Tok Val)} (h : ToksAt w v L) (hb : Below w.heap.size w w') : ToksAt w' v L := by
  obtain ⟨p, c, e, hc, h | ⟨b, off, h1, h2, h3⟩⟩ := h
  · exact ⟨p, c, e, hc, Or.inl h⟩
  · exact ⟨p, c, e, hc, Or.inr ⟨b, off, h1, Nat.lt_of_lt_of_le h2 hb.size, fun i hi => (h3 i hi).below hb h2⟩⟩
theorem ToksAt.form {w : World} {v : Value} {L : List (Tok Val)} (h : ToksAt w v L) : ∃ p c, v = .slice p L.length c ∧ L.length ≤ c ∧ ∀ i (hi : i < L.length), ∃ b off, p = some ⟨b, off, none⟩ ∧ b < w.heap.size ∧ TokC w b (off + i * 7) L[i] := by
  obtain ⟨p, c, e, hc, h | ⟨b, off, h1, h2, h3⟩⟩ := h
  · exact ⟨p, c, e, hc, fun i hi => by subst h; simp at hi⟩
  · exact ⟨p, c, e, hc, fun i hi => ⟨b, off, h1, h2, h3 i hi⟩⟩
/-- What is left behind the first k. -/
theorem ToksAt.drop {w : World} {b off n c : Nat} {L : List (Tok Val)} (h : ToksAt w (.slice (some ⟨b, off, none⟩) n c) L) (k : Nat) (hk : k ≤ L.length) (p : Option Addr) (hp : k < L.length → p = some ⟨b, off + k * 7, none⟩) : ToksAt w (.slice p (L.length - k) (c - k)) (L.drop k) := by
  obtain ⟨p', c', e, hc, h⟩ := h
  injection e with e1 e2 e3
  subst e1 e3
  refine ⟨p, c - k, by rw [List.length_drop], by rw [List.length_drop]; omega, ?_⟩
  rcases h with h | ⟨b', off', h1, h2, h3⟩
  · exact Or.inl (by rw [h]; simp)
  · injection h1 with h1
    injection h1 with q1 q2 q3
    subst q1 q2
    by_cases hl : k < L.length
    · refine Or.inr ⟨b, off + k * 7, hp hl, h2, fun i hi => ?_⟩
      rw [List.length_drop] at hi
      have := h3 (k + i) (by omega)
      rw [List.getElem_drop]
      rw [show off + k * 7 + i * 7 = off + (k + i) * 7 by omega]
      exact this
    · exact Or.inl (List.drop_eq_nil_of_le (by omega))
theorem flatT_getX (L : List (Tok Val)) (i j : Nat) (hi : i < L.length) (hj : j < 7) : (flatT L)[i * 7 + j]? = (tcells L[i])[j]? := by
  induction L generalizing i with
  | nil => simp at hi
  | cons t L ih =>
    have e : flatT (t :: L) = tcells t ++ flatT L := rfl
    have hl : (tcells t).length = 7 := rfl
    rw [e]
    cases i with
    | zero => rw [List.getElem?_append_left (by omega)]; simp
    | succ i =>
      rw [List.getElem?_append_right (by omega), hl, show (i + 1) * 7 + j - 7 = i * 7 + j by omega, ih i (by simpa using hi)]
      simp
theorem OwnT7.at {B : Nat} {v : Value} {L : List (Tok Val)} {w : World} (h : OwnT7 B v L w) : ToksAt w v L := by
  have h' : w.ownsRow B 93 7 v L.length (flatT L) := h
  rcases h'.2 with ⟨rfl, hn⟩ | ⟨g, cap, cur, rfl, hb, hg, hc, hd, he⟩
  · exact ⟨none, 0, by rw [hn], by omega, Or.inl (List.length_eq_zero_iff.1 hn)⟩
  · refine ⟨_, cap, rfl, ?_, Or.inr ⟨g, 0, rfl, (Array.getElem?_eq_some_iff.1 hg).1, fun i hi => ?_⟩⟩
    · omega
    · have k : ∀ j, j < 7 → w.cell? ⟨g, 0 + i * 7 + j, none⟩ = (tcells L[i])[j]? := fun j hj => by
        rw [Nat.zero_add, h'.cellAt _ (by omega)]
        exact flatT_getX L i j hi hj
      exact ⟨k 0 (by omega), k 1 (by omega), k 2 (by omega), k 3 (by omega), k 4 (by omega), k 5 (by omega), k 6 (by omega)⟩

/-- Why a line is not cut into tokens; its tokens. -/
def cutE (s : ByteArray) : Int := if 4096 < s.size then 2 else if (T sdB s.data.toList 0).2 = none then 0 else 50
def tks (s : ByteArray) : List (Tok Val) := (T sdB s.data.toList 0).1

set_option maxRecDepth 100000 in
set_option maxHeartbeats 2000000 in
theorem cut_any (s : ByteArray) (w : World) (ht : Pow w) (he : Errs w) (h8 : 9 ≤ w.heap.size) :
    Calls Tryz.prog 30 #[.string s] w fun r w' => ∃ p n c, r = .returned (.tuple #[.slice p n c, errV (cutE s)]) ∧ Below w.heap.size w w' ∧ (cutE s = 0 → ToksAt w' (.slice p n c) (tks s)) := by
  by_cases h : 4096 < s.size
  · have hE : Hid (cutE s = 2) := if_pos h
    have h' : (4096 : Int) < s.size := by omega
    rw [hE.out]
    go_enter Tryz.func30, Tryz.ntmps30
    go_wp2
    go_ret2
    exact ⟨_, _, _, rfl, Below.refl _ _, fun h => by cases h⟩
  · have h' : ¬ (4096 : Int) < s.size := by omega
    have ct : Hid (Calls Tryz.prog 46 #[.string s] w fun e w' => Below w.heap.size w w' ∧ ((∃ p : Nat, (T sdB s.data.toList 0).2 = some p ∧ e = .returned (.tuple #[.slice none 0 0, .int .i64 50, .int .i64 p])) ∨ ((T sdB s.data.toList 0).2 = none ∧ ∃ v, e = .returned (.tuple #[v, .int .i64 0, .int .i64 0]) ∧ OwnT7 (w.heap.size + 1) v (T sdB s.data.toList 0).1 w'))) := tokens_run s w (by omega) ht he h8
    have hE : Hid (cutE s = if (T sdB s.data.toList 0).2 = none then 0 else 50) := if_neg h
    have cf : Hid (∀ (C : Int) (W : World), Calls Tryz.prog 47 #[.int .i64 C] W fun r w' => r = .returned (errV C) ∧ w' = W) := fun C W => failed_any C W
    clear ht he h8 h
    go_enter Tryz.func30, Tryz.ntmps30
    go_wp2_with fail
    refine ct.out.mono ?_
    rintro e w1 ⟨hB, ⟨q, hq, rfl⟩ | ⟨hq, v, rfl, hO⟩⟩
    · have hE2 : Hid (cutE s = 50) := by have h := hE.out; rwa [if_neg (by rw [hq]; simp)] at h
      clear ct hE hq
      go_wp2_with fail
      refine (cf.out 50 _).mono ?_
      rintro e w2 ⟨rfl, rfl⟩
      go_wp2
      go_ret2
      exact ⟨_, _, _, by rw [hE2.out]; rfl, hB, fun h => by rw [hE2.out] at h; cases h⟩
    · have hE2 : Hid (cutE s = 0) := by have h := hE.out; rwa [if_pos hq] at h
      have hT : Hid (ToksAt w1 v (tks s)) := OwnT7.at hO
      obtain ⟨p, c, rfl, -⟩ := hT.out.form
      generalize (tks s).length = n at *
      clear ct hE hq hO
      go_wp2_with fail
      refine (cf.out 0 _).mono ?_
      rintro e w2 ⟨rfl, rfl⟩
      go_wp2
      go_ret2
      exact ⟨_, _, _, by rw [hE2.out]; rfl, hB, fun _ => hT.out⟩

end Go.Proofs.YticmebamclacaabGreatDoor

namespace Go.Proofs.YticmebamclacaabGreatDoor
open Go.RowKit Go.Shelf
set_option linter.unusedVariables false

theorem grownBy_setX (w : World) (b i : Nat) (v : Value) : w.grownBy (w.setCell ⟨b, i, none⟩ v) (some b) :=
  ⟨rfl, rfl, rfl, by simp [World.setCell], fun k _ hk => Below.heap_setCell _ _ _ _ (fun e => hk (by simp [e]))⟩
theorem own_neX {w : World} {B e e' size n T : Nat} {v : Value} {xs : List Value} {cur : Array Value} {fr : Nat × Nat} (h : w.ownsRow B e size v n xs) (hT : w.heap[T]? = some (.cells cur e' fr)) (hne : e ≠ e') : v.ownBlock ≠ some T := by
  intro hv
  obtain ⟨-, ⟨rfl, -⟩ | ⟨g, cap, cur', rfl, -, hg, -⟩⟩ := h
  · cases hv
  · injection hv with hv
    have hv' : g = T := hv
    subst hv'
    rw [hg] at hT
    injection hT with hT
    injection hT with _ h2 _
    exact hne h2
/-- Blocks that are not bytes, and not the builder's own, stay. -/
def KeepB (b : Nat) (w w' : World) : Prop := ∀ k cs t fz, k < w.heap.size → k ≠ b → w.heap[k]? = some (.cells cs t fz) → t ≠ 5 → w'.heap[k]? = w.heap[k]?
theorem KeepB.refl (b : Nat) (w : World) : KeepB b w w := fun _ _ _ _ _ _ _ _ => rfl

theorem ckK (B b : Nat) (bs : List Value) (w : World) (h : Lib.IsBuilder 53 5 B b bs w) :
    Calls Tryz.prog 28 #[.pointer (some ⟨b, 0, none⟩)] w fun e w' => e = .returned (.tuple #[]) ∧ Lib.BuilderAt 53 5 B b (.pointer (some ⟨b, 0, none⟩)) bs w' ∧ Below B w w' ∧ (∀ k, k < w.heap.size → k ≠ b → w'.heap[k]? = w.heap[k]?) := by
  rcases h with h | h
  · refine (ck_fresh b w h.cell0 h.shape h.frozen0).mono ?_
    rintro e w' ⟨rfl, rfl⟩
    exact ⟨rfl, h.used _, (Below.refl B w).setCell (p := ⟨b, 0, none⟩) h.1 _, fun k hk hb => (grownBy_setX w b 0 _).block k hk (fun e => hb (by injection e))⟩
  · refine (ck_used b w h.cell0).mono ?_
    rintro e w' ⟨rfl, rfl⟩
    exact ⟨rfl, h, Below.refl B _, fun _ _ _ => rfl⟩

set_option maxHeartbeats 2000000 in
set_option maxRecDepth 100000 in
theorem wstrK (B b : Nat) (bs : List Value) (s : ByteArray) (w : World) (h : Lib.IsBuilder 53 5 B b bs w) (hlen : bs.length + s.size ≤ 140737488355328) (hBw : B ≤ w.heap.size) :
    Calls Tryz.prog 16 #[.pointer (some ⟨b, 0, none⟩), .string s] w fun e w' => e = .returned (.tuple #[.int .i64 s.size, .nilIface]) ∧ Lib.BuilderAt 53 5 B b (.pointer (some ⟨b, 0, none⟩)) (bs ++ Lib.strCells s) w' ∧ Below B w w' ∧ KeepB b w w' := by
  obtain ⟨i0, hi, hz0, hz1, hz2⟩ := info_parts inB
  go_enter Tryz.func16, Tryz.ntmps16
  go_wp2_with (go_at_call 28; refine (ckK B b bs _ h).mono ?_)
  rintro e w1 ⟨rfl, ⟨hB, v, hbk, hown, hne⟩, hb1, hk1⟩
  have s1 := hb1.size
  have c1 : w1.cell? ⟨b, 1, none⟩ = some v := by rw [Lib.cell_of_heap hbk]; rfl
  go_wp2_with (at_builtin; refine Lib.wpList_append_own_string _ rfl _ _ 51 9 rfl B 5 i0 Tryz.underlying51 Tryz.underlying9 hi hz0 hz1 hz2 _ _ _ rfl hown s rfl ?c3 ?c4 ?c5 ?_)
  case c3 => unfold maxLen; omega
  case c4 => omega
  case c5 => omega
  intro v' w2 hown' hgrow _
  have hlt : b < w1.heap.size := Lib.BuilderAt.lt ⟨hB, v, hbk, hown, hne⟩
  have hb2 : w2.heap[b]? = some (.cells #[.pointer (some ⟨b, 0, none⟩), v] 53 (0, 0)) := by
    rw [hgrow.block b hlt (fun e => hne e.symm)]
    exact hbk
  have d1 : w2.cell? ⟨b, 1, none⟩ = some v := by rw [Lib.cell_of_heap hb2]; rfl
  have f1 : w2.frozen? ⟨b, 1, none⟩ = false := Lib.frozen_of_heap hb2 1
  have hkeep : Hid (∀ u : Value, KeepB b w (w2.setCell ⟨b, 1, none⟩ u)) := fun u k cs t fz hk hkb hc ht => by
    have e1 := hk1 k hk hkb
    have hw1 : k < w1.heap.size := Nat.lt_of_lt_of_le hk (by have := hb1.size; omega)
    have e2 := hgrow.block k hw1 (fun e => own_neX hown (e1.trans hc) (fun e' => ht e'.symm) e.symm)
    have hw2 : k < w2.heap.size := Nat.lt_of_lt_of_le hw1 hgrow.size
    exact ((grownBy_setX w2 b 1 u).block k hw2 (fun e => hkb (by injection e))).trans (e2.trans e1)
  obtain ⟨ao, n', cap, rfl⟩ : ∃ ao n' cap, v' = .slice ao n' cap := by
    rcases hown'.2 with ⟨hv, _⟩ | ⟨g, cap, cur, hv, _⟩
    · exact ⟨_, _, _, hv⟩
    · exact ⟨_, _, _, hv⟩
  go_wp2
  go_ret2
  refine ⟨rfl, ?_, ?_, hkeep.out _⟩
  · exact Lib.BuilderAt.put (T := 53) (e := 5) hB hb2 (bs' := bs ++ Lib.strCells s) (by simpa [Lib.strCells_length] using hown') (by decide)
  · exact (hb1.grown hgrow (by omega) (fun k hk => (hown.lt k hk).1)).setCell (p := ⟨b, 1, none⟩) hB _
end Go.Proofs.YticmebamclacaabGreatDoor

namespace Go.Proofs.YticmebamclacaabGreatDoor
open Go.RowKit LX Go.Shelf
set_option linter.unusedVariables false

/-- A builder that holds some bytes. -/
def Bld (B b : Nat) (l : List UInt8) (w : World) : Prop := Lib.IsBuilder 53 5 B b (Lib.byteCells l) w
theorem wsB (B b : Nat) (l : List UInt8) (s : ByteArray) (w : World) (h : Bld B b l w) (hlen : l.length + s.size ≤ 140737488355328) (hBw : B ≤ w.heap.size) :
    Calls Tryz.prog 16 #[.pointer (some ⟨b, 0, none⟩), .string s] w fun e w' => e = .returned (.tuple #[.int .i64 s.size, .nilIface]) ∧ Bld B b (l ++ s.data.toList) w' ∧ Below B w w' ∧ KeepB b w w' := by
  refine (wstrK B b _ s w h (by rw [Lib.byteCells_length]; exact hlen) hBw).mono ?_
  rintro e w' ⟨rfl, h1, h2, h3⟩
  refine ⟨rfl, ?_, h2, h3⟩
  unfold Bld
  rw [Lib.byteCells_append]
  exact Or.inr h1
theorem wbB (B b : Nat) (l : List UInt8) (c : UInt8) (w : World) (h : Bld B b l w) (hlen : l.length + 1 ≤ 140737488355328) (hBw : B ≤ w.heap.size) :
    Calls Tryz.prog 18 #[.pointer (some ⟨b, 0, none⟩), .int .u8 c.toNat] w fun e w' => e = .returned .nilIface ∧ Bld B b (l ++ [c]) w' ∧ Below B w w' := by
  refine (wbyte B b _ c.toNat w h (by rw [Lib.byteCells_length]; exact hlen) hBw).mono ?_
  rintro e w' ⟨rfl, h1, h2⟩
  refine ⟨rfl, ?_, h2⟩
  unfold Bld
  rw [Lib.byteCells_append]
  exact Or.inr h1
theorem Bld.lt {B b : Nat} {l : List UInt8} {w : World} (h : Bld B b l w) : b < w.heap.size := by
  rcases h with h | h
  · exact Lib.BuilderAt.lt h
  · exact Lib.BuilderAt.lt h
theorem own_belX {w w' : World} {B e size n : Nat} {v : Value} {xs : List Value} (h : w.ownsRow B e size v n xs) (hb : Below w.heap.size w w') : w'.ownsRow B e size v n xs :=
  World.ownsRow.kept h (row := none) ⟨hb.os, hb.tape, hb.output, hb.size, fun k hk _ => hb.block k hk⟩ (by cases hv : v.ownBlock with | none => exact Or.inl rfl | some k => exact Or.inr (by intro h; cases h))
/-- What a callee that only makes new memory leaves of a builder. -/
theorem Bld.below {B b : Nat} {l : List UInt8} {w w' : World} (h : Bld B b l w) (hb : Below w.heap.size w w') : Bld B b l w' := by
  rcases h with h | h
  · have hl := Lib.BuilderAt.lt h
    obtain ⟨hB, v, hbk, hown, hne⟩ := h
    exact Or.inl ⟨hB, v, (hb.block b hl).trans hbk, own_belX hown hb, hne⟩
  · have hl := Lib.BuilderAt.lt h
    obtain ⟨hB, v, hbk, hown, hne⟩ := h
    exact Or.inr ⟨hB, v, (hb.block b hl).trans hbk, own_belX hown hb, hne⟩

def Val.text (v : Val) : List UInt8 := vtext v.k v.n v.d v.s
theorem Val.text_len {v : Val} (h : v.may = 0) (f : v.Fits) : v.text.length ≤ 300 := by
  have hs := chk_size h
  unfold Val.text vtext
  split
  · have := Lib.itoa_length_le v.n f.n1 f.n2; omega
  · split
    · have := Lib.itoa_length_le v.n f.n1 f.n2
      have := Lib.itoa_length_le v.d f.d1 f.d2
      simp; omega
    · have := inside_len v.s.data.toList
      have e : v.s.data.toList.length = v.s.size := by simp
      unfold quoted
      simp; omega
/-- The text of an event's values, and of an event. -/
def argsT : List Val → List UInt8
  | [] => []
  | v :: l => (32 :: v.text) ++ argsT l
def evtT (e : Evt) : List UInt8 := (32 :: 40 :: e.name.data.toList) ++ (argsT e.args ++ [41])
def wevE (e : Evt) : Int := if nameB e.name = true then valsE e.args else 1
theorem argsT_snoc (l : List Val) (v : Val) : argsT (l ++ [v]) = argsT l ++ (32 :: v.text) := by
  induction l with
  | nil => simp [argsT]
  | cons x l ih => simp only [List.cons_append, argsT, ih, List.append_assoc]
theorem argsT_len (l : List Val) (h : ∀ v ∈ l, v.may = 0 ∧ v.Fits) : (argsT l).length ≤ 301 * l.length := by
  induction l with
  | nil => simp [argsT]
  | cons x l ih =>
    have h1 := Val.text_len (h x (by simp)).1 (h x (by simp)).2
    have h2 := ih (fun v hv => h v (by simp [hv]))
    simp only [argsT, List.length_append, List.length_cons]
    omega
theorem heap_allocX (w : World) (o : Obj) : (w.alloc o).heap[w.heap.size]? = some o := by
  show (w.heap.push o)[w.heap.size]? = some o
  rw [Array.getElem?_push, if_pos rfl]
theorem valsE_all {l : List Val} (h : valsE l = 0) : ∀ v ∈ l, v.may = 0 := by
  induction l with
  | nil => intro v hv; cases hv
  | cons x l ih =>
    unfold valsE at h
    by_cases hx : x.may = 0
    · rw [if_pos hx] at h
      intro v hv
      rcases List.mem_cons.1 hv with rfl | hv
      · exact hx
      · exact ih h v hv
    · rw [if_neg hx] at h; exact absurd h hx

set_option maxRecDepth 100000 in
set_option maxHeartbeats 4000000 in
theorem wev_any (B bb : Nat) (l : List UInt8) (e : Evt) (V : Value) (w0 w : World) (h0 : Below w0.heap.size w0 w) (hB0 : w0.heap.size ≤ B) (hBw : B ≤ w.heap.size) (h : Bld B bb l w) (hV : RowAt w0 V e.args) (ht : Pow w0) (fx : ∀ v ∈ e.args, v.Fits) (lv : e.args.length ≤ 9223372036854775807) (hl : l.length + 301 * e.args.length + e.name.size + 400 ≤ 140737488355328) :
    Calls Tryz.prog 34 #[.pointer (some ⟨bb, 0, none⟩), .agg #[.string e.name, V]] w fun r w' => r = .returned (errV (wevE e)) ∧ Below B w w' ∧ (wevE e = 0 → Bld B bb (l ++ evtT e) w') := by
  have cN : Hid (∀ W : World, Calls Tryz.prog 38 #[.string e.name] W fun e' w' => e' = .returned (.bool (nameB e.name)) ∧ w' = W) := fun W => name_any e.name W
  obtain ⟨pv, cv, rfl, HY0⟩ := hV.formX
  have HY : Hid (∀ i (hi : i < e.args.length), ∃ b off, pv = some ⟨b, off, none⟩ ∧ b < w0.heap.size ∧ w0.cell? ⟨b, off + i * 4, none⟩ = some (.int .i64 e.args[i].k) ∧ w0.cell? ⟨b, off + i * 4 + 1, none⟩ = some (.int .i64 e.args[i].n) ∧ w0.cell? ⟨b, off + i * 4 + 2, none⟩ = some (.int .i64 e.args[i].d) ∧ w0.cell? ⟨b, off + i * 4 + 3, none⟩ = some (.string e.args[i].s)) := HY0
  have HT : Hid (Pow w0) := ht
  have HB : Hid (Bld B bb l w) := h
  have hbb := h.lt
  have hE0 : Hid (wevE e = if nameB e.name = true then valsE e.args else 1) := rfl
  clear hV HY0 ht h
  obtain ⟨m, em⟩ : ∃ m : Nat, Hid (e.args.length = m) := ⟨_, rfl⟩
  obtain ⟨X, eX⟩ : ∃ X : ByteArray, Hid (e.name = X) := ⟨_, rfl⟩
  obtain ⟨E, eE⟩ : ∃ E : Int, Hid (wevE e = E) := ⟨_, rfl⟩
  have hev : Hid (evtT e = (32 :: 40 :: X.data.toList) ++ (argsT e.args ++ [41])) := by unfold Hid evtT; rw [eX.out]
  rw [eX.out] at cN
  rw [eE.out, eX.out] at hE0
  rw [em.out, eX.out] at hl
  rw [em.out] at lv
  rw [eE.out, eX.out, em.out]
  go_enter Tryz.func34, Tryz.ntmps34
  cases hN : nameB X with
  | false =>
    have hE : Hid (E = 1) := by have h := hE0.out; rwa [if_neg (by rw [hN]; decide)] at h
    rw [hN] at cN
    go_wp2_with fail
    refine (cN.out _).mono ?_
    rintro e' w1 ⟨rfl, rfl⟩
    go_wp2
    go_ret
    exact ⟨retE hE.out rfl, Below.mono (B := w.heap.size) (by go_grown) hBw, fun h => by rw [hE.out] at h; cases h⟩
  | true =>
    have hE : Hid (E = valsE e.args) := by have h := hE0.out; rwa [if_pos hN] at h
    rw [hN] at cN
    clear hE0 hN
    obtain ⟨S, eS⟩ : ∃ S : ByteArray, Hid (S = (⟨#[32, 40]⟩ : ByteArray) ++ X) := ⟨_, rfl⟩
    have x1 : ∀ W : World, (Op.stringOp .add ⟨#[32, 40]⟩ X).run Tryz.prog W = .ok (.string S) W := fun W => by
      rw [run_string_add_sum W _ _ (by have : (⟨#[32, 40]⟩ : ByteArray).size = 2 := rfl
                                       omega), eS.out]
    have sS : S.size = 2 + X.size := by rw [eS.out, ByteArray.size_append]; rfl
    have lS : Hid (S.data.toList = 32 :: 40 :: X.data.toList) := by unfold Hid; rw [eS.out]; simp
    go_wp2_with fail
    refine (cN.out _).mono ?_
    rintro e' w1 ⟨rfl, rfl⟩
    go_wp2_with fail
    refine (wsB B bb l S _ (HB.out.below (by go_grown)) (by omega) (by simp; omega)).mono ?_
    rintro e' w1 ⟨rfl, hb1, hB1, hK1⟩
    have c1 : w1.cell? ⟨w.heap.size, 1, none⟩ = some (.slice pv m cv) := by
      have hh := hK1 w.heap.size #[.string X, .slice pv m cv] 68 (0, 0) (by simp) (by omega) (heap_allocX _ _) (by decide)
      rw [Lib.cell_of_heap (hh.trans (heap_allocX _ _))]
      rfl
    have K1 : Below B w w1 := Below.trans (Below.mono (B := w.heap.size) (by go_grown) hBw) hB1
    have HB1 : Hid (Bld B bb (l ++ S.data.toList) w1) := hb1
    clear hb1 hB1 hK1 cN HB x1
    go_wp2
    go_loopw [23] (fun i wr => ∃ k : Nat, k ≤ m ∧ i = .int .i64 k ∧ Hid (E = valsE (e.args.drop k)) ∧ Hid (∀ v ∈ e.args.take k, v.may = 0) ∧ Hid (Bld B bb (l ++ S.data.toList ++ argsT (e.args.take k)) wr) ∧ Below B w wr) (fun i _ => m - (intOf i).toNat)
    case atStart => exact ⟨0, Nat.zero_le _, rfl, by rw [List.drop_zero]; exact hE, (fun v hv => by simp at hv), by simpa [argsT, Hid] using HB1.out, K1⟩
    case round =>
      obtain ⟨k, hk, rfl, hr, hok, hbl, hBw2⟩ := hrel
      have hsz : B ≤ wr.heap.size := Nat.le_trans hBw hBw2.size
      have hB0r : Below w0.heap.size w0 wr := h0.trans (hBw2.mono hB0)
      have lT : (argsT (e.args.take k)).length ≤ 301 * k := by
        have h := argsT_len (e.args.take k) (fun v hv => ⟨hok.out v hv, fx v (List.mem_of_mem_take hv)⟩)
        rw [List.length_take, Nat.min_eq_left (by have := em.out; omega)] at h
        exact h
      have lTS : (l ++ S.data.toList ++ argsT (e.args.take k)).length ≤ l.length + (2 + X.size) + 301 * k := by
        have : S.data.toList.length = S.size := by simp
        rw [List.length_append, List.length_append]
        omega
      by_cases hlt : k < m
      · have kx : k < e.args.length := by have := em.out; omega
        obtain ⟨b, off, rfl, hb, r0, r1, r2, r3⟩ := HY.out k kx
        have a0 := (hB0r.cell (p := ⟨b, off + k * 4, none⟩) hb).trans r0
        have a1 := (hB0r.cell (p := ⟨b, off + k * 4 + 1, none⟩) hb).trans r1
        have a2 := (hB0r.cell (p := ⟨b, off + k * 4 + 2, none⟩) hb).trans r2
        have a3 := (hB0r.cell (p := ⟨b, off + k * 4 + 3, none⟩) hb).trans r3
        have f1 := fx e.args[k] (List.getElem_mem kx)
        have hr2 : Hid (E = if e.args[k].may = 0 then valsE (e.args.drop (k + 1)) else e.args[k].may) := by
          have h := hr.out
          rw [List.drop_eq_getElem_cons kx] at h
          exact h
        have hbl2 : Hid (∀ W, Bld B bb (l ++ S.data.toList ++ argsT (e.args.take k) ++ (32 :: e.args[k].text)) W → Bld B bb (l ++ S.data.toList ++ argsT (e.args.take (k + 1))) W) := fun W h => by
          rw [List.take_succ_eq_append_getElem kx, argsT_snoc, ← List.append_assoc]
          exact h
        have hok2 : Hid (e.args[k].may = 0 → ∀ v ∈ e.args.take (k + 1), v.may = 0) := fun hz v hv => by
          rw [List.take_succ_eq_append_getElem kx] at hv
          rcases List.mem_append.1 hv with hv | hv
          · exact hok.out v hv
          · rw [List.mem_singleton] at hv; rw [hv]; exact hz
        clear r0 r1 r2 r3 hr
        have HBL : Hid (Bld B bb (l ++ S.data.toList ++ argsT (e.args.take k)) wr) := hbl
        generalize l ++ S.data.toList ++ argsT (e.args.take k) = G at HBL hbl2 lTS
        generalize e.args[k] = Y at a0 a1 a2 a3 hr2 f1 hbl2 hok2
        obtain ⟨C, eC⟩ : ∃ C : Int, Hid (Y.may = C) := ⟨_, rfl⟩
        have cP : Hid (∀ W : World, Below wr.heap.size wr W → Calls Tryz.prog 50 #[.agg #[.int .i64 Y.k, .int .i64 Y.n, .int .i64 Y.d, .string Y.s]] W fun e w' => e = .returned (.tuple #[.string ⟨(if C = 0 then Y.text else []).toArray⟩, .int .i64 C]) ∧ Below W.heap.size W w') := fun W hW => by
          have h := print_any Y.k Y.n Y.d Y.s W f1.n1 f1.n2 f1.d1 f1.d2 (HT.out.below (hB0r.trans (hW.mono hB0r.size)))
          rw [show chk Y.k Y.n Y.d Y.s = C from eC.out] at h
          exact h
        by_cases hC : C = 0
        · have hr3 : Hid (E = valsE (e.args.drop (k + 1))) := by have h := hr2.out; rwa [if_pos (eC.out.trans hC)] at h
          have tl := Val.text_len (eC.out.trans hC) f1
          have hok3 : Hid (∀ v ∈ e.args.take (k + 1), v.may = 0) := hok2.out (eC.out.trans hC)
          rw [if_pos hC] at cP
          subst hC
          obtain ⟨TX, eT⟩ : ∃ TX : ByteArray, Hid (⟨Y.text.toArray⟩ = TX) := ⟨_, rfl⟩
          obtain ⟨S2, eS2⟩ : ∃ S2 : ByteArray, Hid (S2 = (⟨#[32]⟩ : ByteArray) ++ TX) := ⟨_, rfl⟩
          have sT : TX.size = Y.text.length := by rw [← eT.out]; show Y.text.toArray.size = _; simp
          have x2 : ∀ W : World, (Op.stringOp .add ⟨#[32]⟩ TX).run Tryz.prog W = .ok (.string S2) W := fun W => by
            rw [run_string_add_sum W _ _ (by have : (⟨#[32]⟩ : ByteArray).size = 1 := rfl
                                             omega), eS2.out]
          have sS2 : S2.size = 1 + Y.text.length := by rw [eS2.out, ByteArray.size_append, sT]; rfl
          have lS2 : Hid (S2.data.toList = 32 :: Y.text) := by unfold Hid; rw [eS2.out, ← eT.out]; simp
          rw [eT.out] at cP
          clear hr2 hok2 hok hbl eT eS2 sT
          go_wp2_with fail
          refine (cP.out _ (by go_grown)).mono ?_
          rintro e' w2 ⟨rfl, hb2⟩
          obtain ⟨hB2, -⟩ := bgX (n := wr.heap.size) (W0 := wr) (by go_grown) (by go_size) hb2
          have HB2 : Hid (Bld B bb G w2) := HBL.out.below hB2
          have s2 : B ≤ w2.heap.size := Nat.le_trans hsz hB2.size
          have K2 : Below B w w2 := hBw2.trans (hB2.mono hsz)
          clear a0 a1 a2 a3 cP hb2 hB2 HBL
          go_wp2_with fail
          refine (wsB B bb G S2 _ HB2.out (by omega) s2).mono ?_
          rintro e' w3 ⟨rfl, hb3, hB3, -⟩
          have K3 : Below B w w3 := K2.trans hB3
          rw [lS2.out] at hb3
          have HB3 : Hid (Bld B bb (l ++ S.data.toList ++ argsT (e.args.take (k + 1))) w3) := hbl2.out w3 hb3
          clear HB2 hb3 hB3 x2 hbl2 K2 lTS
          go_wp2
          exact ⟨⟨k + 1, by omega, by go_num, hr3, hok3, HB3, K3⟩, by simp [intOf]; omega⟩
        · have hr3 : Hid (E = C) := by have h := hr2.out; rwa [eC.out, if_neg hC] at h
          have hd : Hid (errV C = .iface 74 (.agg #[.int .i64 C])) := errV_ne hC
          have hC' : (C == 0) = false := by simpa using hC
          rw [if_neg hC] at cP
          clear hr2 hok2 hok hbl hbl2
          go_wp2_with fail
          refine (cP.out _ (by go_grown)).mono ?_
          rintro e' w2 ⟨rfl, hb2⟩
          obtain ⟨hB2, -⟩ := bgX (n := wr.heap.size) (W0 := wr) (by go_grown) (by go_size) hb2
          have K2 : Below B w w2 := hBw2.trans (hB2.mono hsz)
          have hnz : Hid (E ≠ 0) := by rw [hr3.out]; exact hC
          clear a0 a1 a2 a3 cP hb2 hB2 HBL hC
          go_wp2
          go_ret
          exact ⟨retE hr3.out hd.out.symm, K2, fun h => absurd h hnz.out⟩
      · have c2 : ¬ (k : Int) < m := by omega
        have hr3 : Hid (E = 0) := by
          have h := hr.out
          rw [List.drop_eq_nil_of_le (by have := em.out; omega)] at h
          exact h
        have hall : e.args.take k = e.args := List.take_of_length_le (by have := em.out; omega)
        rw [hall] at hbl lTS
        have HBL : Hid (Bld B bb (l ++ S.data.toList ++ argsT e.args) wr) := hbl
        clear hbl hall lT
        go_wp2_with fail
        refine (wbB B bb _ 41 _ HBL.out (by omega) hsz).mono ?_
        rintro e' w3 ⟨rfl, hb3, hB3⟩
        have K3 : Below B w w3 := hBw2.trans hB3
        have HB3 : Hid (Bld B bb (l ++ evtT e) w3) := by
          unfold Hid
          rw [hev.out, ← lS.out, ← List.append_assoc, ← List.append_assoc]
          exact hb3
        clear HBL hb3 hB3 lTS
        go_wp2
        go_ret
        exact ⟨retE hr3.out rfl, K3, fun _ => HB3.out⟩

end Go.Proofs.YticmebamclacaabGreatDoor

namespace Go.Proofs.YticmebamclacaabGreatDoor
open Go.RowKit Go.Shelf
set_option linter.unusedVariables false

end Go.Proofs.YticmebamclacaabGreatDoor

namespace Go.Proofs.YticmebamclacaabGreatDoor
open Go.RowKit Go.Shelf
set_option linter.unusedVariables false

theorem step_append_own {P : Program} {ops : Array Oper} {o : Oper} {a : Act} {w : World} {K : Act → World → Prop} {Q : Exit → Act → World → Prop} {E : Prop}
    (hg : o.guard = none) (s x : Operand) (t : TypeId) (ho : o.op = Op.call { callee := Callee.builtin Builtin.append, args := #[s, x], argTypes := #[t, t] })
    (base : Nat) (e : TypeId) (i : TypeInfo) (z : Value) (size bytes : Nat) (ht : P.underlying t = some (.slice e)) (hi : P.info? e = some i) (hz : i.zero = some z) (hsize : i.size = size) (hby : i.bytes = bytes) (hzs : z.cells.size = size) (hsz : 0 < size)
    (v : Value) (n : Nat) (xs : List Value) (hs : a.eval s = v) (hown : w.ownsRow base e size v n xs)
    (ad : Addr) (m c : Nat) (news : List Value) (hx : a.eval x = .slice (some ad) m c) (hl : news.length = m * size) (hnews : ∀ j u, news[j]? = some u → w.cell? (ad.add j) = some u) (h1 : ∀ u ∈ news, u.oneCell' = true)
    (h63 : n + m ≤ maxLen) (hbytes : (n + m) * bytes ≤ 140737488355328) (hbase : base ≤ w.heap.size)
    (h : ∀ v' w', w'.ownsRow base e size v' (n + m) (xs ++ news) → w.grownBy w' v.ownBlock → K (a.put o.dst v') w') :
    if Region.wanted o (yielded ops a.tmps) = true then Oper.wp P o a w K Q else E := by
  have hw : Region.wanted o (yielded ops a.tmps) = true := by simp [Region.wanted, hg]
  rw [if_pos hw]
  exact wp_append_own w s x t ho base e i z size bytes ht hi hz hsize hby hzs hsz v n xs hs hown ad m c news hx hl hnews h1 h63 hbytes hbase fun v' w' h2 h3 _ => h v' w' h2 h3

end Go.Proofs.YticmebamclacaabGreatDoor
